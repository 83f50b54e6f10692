/-
  What the claim stands on, part 7.
-/
import Derived.Test.YtgfppohfgconeaaGreatDoorP6
import Derived.Sort.LotD3
import Derived.Sort.LotD5
set_option linter.unusedVariables false
set_option linter.unusedSimpArgs false
open Option renaming some → Z
open Bool renaming true → U, false → O
open Go renaming Value → ab, IntKind → bY
open Go.Proofs.Tryz renaming prog → ae
open Nat renaming le_of_ble_eq_true → af, le_refl → aj, eq_of_beq_eq_true → aA, lt_of_lt_of_le → aZ, le_trans → bV
open Bool renaming and_eq_true → ag
open Option.some renaming injEq → ah
open Prod.mk renaming injEq → ay
open List renaming all_eq_true → aB
open Option renaming map_some → dk
namespace Go.AM
set_option maxRecDepth 1000000
open Go Go.Conc Go.Proofs
def lr (b:Bool):V:=⟨3,0,.empty,b⟩
def apr (n:Int):V:=⟨1,n,.empty,O⟩
def NT (a b:Int):Int:=bY.i64.wrap (a.tdiv b)
def VI (a b:Int):Int:=a.tmod b
def JO (l r:V):V:=lr (rk (oP l r) 0)
theorem afI (e d:Bool)(a b:Int)(c:b≠0):j5 ae .quo 3 e d (I a) (I b)=Z (I (NT a b)):=by
 refine vh rfl ?_ rfl;rw[ig]
 show(Op.intDiv .quo .i64 a b).aQ ae=_
 unfold Op.intDiv;simp only[c,if_false];rfl
theorem afF (e d:Bool)(a b:Int)(c:b≠0):j5 ae .rem 3 e d (I a) (I b)=Z (I (VI a b)):=by
 refine vh rfl ?_ rfl;rw[ig]
 show(Op.intDiv .rem .i64 a b).aQ ae=_
 unfold Op.intDiv;simp only[c,if_false];rfl
theorem am8 (a b:Int)(c:b≠0):jk Nat.div .i64 a b (j5 ae .quo 3 O O (I a) (I b))=Z (I (NT a b)):=by
 rw[afI _ _ a b c];unfold jk
 split
 .rename_i i
  split
  .rename_i j
   split
   .rename_i h;have h:i<9223372036854775808:=Nat.lt_of_succ_le (af h);have e:NT (.ofNat i) (.ofNat (j+1))=((i / (j+1):Nat):Int):=by
     unfold NT;rw[show Int.tdiv (.ofNat i) (.ofNat (j+1))=((i / (j+1):Nat):Int)from rfl];have f:=Nat.div_le_self i (j+1);generalize i / (j+1)=d at f;exact rK ⟨ai,ai⟩
    rw[e];rfl
   .rfl
  .rfl
 .rfl
theorem ac8 (a b:Int)(c:b≠0):jk Nat.mod .i64 a b (j5 ae .rem 3 O O (I a) (I b))=Z (I (VI a b)):=by
 rw[afF _ _ a b c];unfold jk
 split
 .rename_i i
  split
  .rename_i j
   split
   .rename_i h;have h:i<9223372036854775808:=Nat.lt_of_succ_le (af h);have e:VI (.ofNat i) (.ofNat (j+1))=((i%(j+1):Nat):Int):=by
     rfl
    rw[e];rfl
   .rfl
  .rfl
 .rfl
section
variable {K:fE}{m:Mem}
theorem aoP (b:Bool)(fH:Nat):Path 278 [.bool b]
 [jF MV fH,
  rJ fH 0 [I 3,I 0,zvE,.bool b],
  TQ 49 fH (.agg #[I 3,I 0,zvE,.bool b])]
 (.agg #[I 3,I 0,zvE,.bool b]):=lF
theorem aoO (v:V)(fH:Nat):Path 332 [nQ v]
 [jF (zsV v) fH,
  .mem (aI fH 0) (I v.k)]
 (.bool (rk v.k 0)):=lF
theorem aoQ (v u:V)(b:Bool)(fH a:Nat):Path 273 [nQ v]
 [jF (zsV v) fH,
  vT 4 fH (nQ v),
  .mem (iW (vP fH 0)) (I a),
  fQ,
  .call 278 [.bool U] (nQ u),
  .mem (dH (I a) (vP fH 0) (fX ae 49 (vP fH 0))) undef,
  .val (j5 ae .eql 49 O O (nQ v) (nQ u)) (.bool b)]
 (.bool b):=lF
theorem af1 (op o:Int):Path 335 [I op,I o]
 [bu (rk op 11) U]
 (.bool (rk o 0)):=lF
theorem alb (op x:Int)(l r u:V)(b:Bool)(fH c a:Nat):Path 330 [I op,nQ l,nQ r]
 [jF (zsV l) fH,
  jF (zsV r) c,
  jF MV a,
  bu (rk op 23) O,
  bu (rk op 37) O,
  vT 4 fH (nQ l),
  .call 332 [nQ l] (.bool O),
  jT,
  vT 4 c (nQ r),
  jT,
  .call 332 [nQ r] (.bool O),
  jT,
  jT,
  bu (rk op 17) O,
  bu (rk op 18) O,
  bu (rk op 10) O,
  bu (rk op 19) O,
  bu (rk op 20) O,
  bu (rk op 21) O,
  vT 4 fH (nQ l),
  vT 4 c (nQ r),
  .call 155 [nQ l,nQ r] (I x),
  .call 335 [I op,I x] (.bool b),
  .call 278 [.bool b] (nQ u),
  rJ a 0 (MW u),
  TQ 49 a (nQ u)]
 (.tuple #[nQ u,I 0]):=lF
theorem PV {m0:Mem}{S:Nat->Prop}{b:Nat}(g:Gd m0)(k:Kp m0 m S)(f:m0.next<=b)(o:Obj m b 0 [I 0,I 0,.string .empty,.bool O])(u:V):
  ∃a,Im b 0 [I u.k,I u.n,.string u.s,.bool u.b] m=Z (undef,a)/\nY ae 49 (vP b 0) a=Z (.agg #[I u.k,I u.n,.string u.s,.bool u.b],a)/\Kp m a (λy=>y=b):=by
 obtain⟨a,e,c,d⟩:=jW (o:=0) [I u.k,I u.n,.string u.s,.bool u.b] o ((g.own k f).may _ _) (af rfl) rfl;exact⟨a,e,ko c rfl Ro.1 Ro.2,d⟩
theorem aca {m0 c a:Mem}{b:Nat}(k:Kp m0 c eK)(d:Kp c a (λy=>y=b))(f:m0.next<=b):Kp m0 a eK:=k.new d (N:=m0.next) (aj _) λy e=>by rw[e];exact f
theorem anr (g:Gd m)(b:Bool):∃a,Ev K 278 [.bool b] m (lr b).val a/\Kp m a eK:=by
 obtain⟨k,i,c,k1,j,_⟩:=bz g [I 0,I 0,.string .empty,.bool O];obtain⟨d,h,f,e⟩:=PV g k1 (aj _) c (lr b);exact⟨d,bg (aoP b _) (.mem i<|.mem h<|.mem f .nil),aca k1 e (aj _)⟩
theorem anq (g:Gd m)(v:V):∃b,Ev K 332 [v.val] m (.bool (decide (v.k=0))) b/\Kp m b eK:=by
 obtain⟨a,e,c,k1,f,_⟩:=bz g v.cells;have d:aI m.next 0 a=Z (I v.k,a):=aO c rfl;rw[<-my];exact⟨a,bg (aoO v _) (.mem e<|.mem d .nil),k1⟩
theorem ani {b:Nat}{v:V}(o:Obj m b 0 v.cells):dH (I ((m.blk b).bq:Int)) (vP b 0) (fX ae 49 (vP b 0)) m=Z (undef,m):=aqX (vs:=v.cells) o rfl (af rfl) Ro.1 Ro.2 rfl
theorem NA {m':Mem}{b:Nat}(k:Kp m m' eK)(h:b<m.next):(m'.blk b).bq=(m.blk b).bq:=by rw[k.blk b h id]
theorem ahP {m':Mem}{b:Nat}{v:V}(o:Obj m b 0 v.cells)(k:Kp m m' eK):dH (I ((m.blk b).bq:Int)) (vP b 0) (fX ae 49 (vP b 0)) m'=Z (undef,m'):=by
 rw[<-NA k o.lt];exact ani (o.a9 k)
theorem aq7 (g:Gd m)(v:V):∃c,Ev K 273 [v.val] m (.bool (v.beq (lr U))) c/\Kp m c eK:=by
 obtain⟨b,j,a,k1,k,_⟩:=bz g v.cells;have e:=g.ext k1;have h:fN 4 m.next 0 b=Z (v.val,b):=cL (vs:=v.cells) a rfl (af rfl);obtain⟨f,i,d⟩:=anr (K:=K) e U;exact⟨f,bg (aoQ v (lr U) ..) (.mem j<|.mem h<|.mem (fM _ _)<|.mem (aJ e)<|.call i<|.mem (ahP a d)<|.val (am0 _ _ v (lr U)) .nil),k1.aX d⟩
theorem aq5 (o:Int):Ev K 335 [I 11,I o] m (.bool (rk o 0)) m:=bg (af1 11 o) (.cond rfl .nil)
end
section
variable {K:fE}{m:Mem}
theorem aq6 (g:Gd m)(l r:V)(R:l.k≠0)(Q:r.k≠0):∃u,Ev K 330 [I 11,l.val,r.val] m (.tuple #[(JO l r).val,I 0]) u/\Kp m u eK:=by
 obtain⟨t,e1,J,k1,n1,_⟩:=bz g l.cells;obtain⟨M,e2,H,w,n2,_⟩:=bz (g.ext k1) r.cells;have p:=k1.aX w;obtain⟨s,e3,G,j,n3,_⟩:=bz (g.ext p) [I 0,I 0,.string .empty,.bool O];have o:=p.aX j;have z:=g.ext o;have C:=(J.a9 w).a9 j;have c:=H.a9 j;have N:fN 4 m.next 0 s=Z (l.val,s):=cL (vs:=l.cells) C rfl (af rfl);obtain⟨q,B,a⟩:=anq (K:=K) z l;have F:=o.aX a;have y:=z.ext a;rw[yz R]at B;have f:fN 4 t.next 0 q=Z (r.val,q):=cL (vs:=r.cells) (c.a9 a) rfl (af rfl);obtain⟨e,A,d⟩:=anq (K:=K) y r;have CR:=F.aX d;have x:=y.ext d;rw[yz Q]at A;have h:fN 4 m.next 0 e=Z (l.val,e):=cL (vs:=l.cells) ((C.a9 a).a9 d) rfl (af rfl);have n:fN 4 t.next 0 e=Z (r.val,e):=cL (vs:=r.cells) ((c.a9 a).a9 d) rfl (af rfl);obtain⟨m6,e6,i⟩:=anA (K:=K) x l r;have E:=CR.aX i;have S:=x.ext i;obtain⟨m7,X,v⟩:=anr (K:=K) S (rk (oP l r) 0);have D:=E.aX v;obtain⟨L,W,T,P⟩:=PV g D (b:=M.next) ai (((G.a9 a).a9 d).a9 i|>.a9 v) (JO l r);exact⟨L,bg (alb 11 (oP l r) l r (JO l r) (rk (oP l r) 0) ..) (.mem e1<|.mem e2<|.mem e3<|.cond rfl<|.cond rfl<|.mem N<|.call B<|.cond rfl<|.mem f<|.cond rfl<|.call A<|.cond rfl<|.cond rfl<|.cond rfl<|.cond rfl<|.cond rfl<|.cond rfl<|.cond rfl<|.cond rfl<|.mem h<|.mem n<|.call e6<|.call (aq5 (oP l r))<|.call X<|.mem W<|.mem T .nil),aca D P ai⟩
end
def sA (cv:Nat->Int->Int->V):X->V×Int
 | .lit v=>(v,0)
 | .bin _ l r=>(JO (sA cv l).1 (sA cv r).1,0)
 | .r7 p i j=>(cv p i j,0)
 |_=>(j6,0)
def X.all(L:V->Prop)(C:Nat->Int->Int->Prop):X->Prop
 | .lit v=>L v
 | .r7 p i j=>C p i j
 | .bin op (.r7 p i j) (.r7 q k l)=>op=11/\C p i j/\C q k l
 |_=>False
def oz (v:V):Prop:=v.k≠0
theorem mOf {b:Nat}:gP ae (.iface 305 (vP b 0)) "Of"=Z (329,vP b 0)/\gP ae (.iface 317 (vP b 0)) "Of"=Z (346,vP b 0)/\gP ae (.iface 396 (vP b 0)) "Of"=Z (351,vP b 0):=by
 refine⟨?_,?_,?_⟩<;>kernel_rfl
section
variable {K:fE}{B:Nat->Prop}
theorem alc (q:Nat)(rw :ab)(op x y z:Int)(c rv:ab)(l r u:V)(fH b a:Nat):Path 329 [vP q 0,rw]
 [jF MV fH,
  .mem (aI q 1) c,
  .iZ (gP ae c "Of") [rw] (.tuple #[nQ l,I 0]),
  jF MV b,
  rJ b 0 (MW l),
  jT,
  .mem (aI q 2) rv,
  .iZ (gP ae rv "Of") [rw] (.tuple #[nQ r,I 0]),
  jF MV a,
  rJ a 0 (MW r),
  jT,
  .mem (aI q 0) (I op),
  vT 4 b (nQ l),
  vT 4 a (nQ r),
  fQ,
  .call 330 [I op,nQ l,nQ r] (.tuple #[nQ u,I z]),
  fQ,
  rJ fH 0 (MW u),
  TQ 49 fH (nQ u)]
 (.tuple #[nQ u,I z]):=lF
theorem aoN (q:Nat)(rw :ab)(u:V)(fH:Nat):Path 346 [vP q 0,rw]
 [jF MV fH,
  vT 4 q (nQ u),
  rJ fH 0 (MW u),
  TQ 49 fH (nQ u)]
 (.tuple #[nQ u,I 0]):=lF
theorem aC.fC{K:fE}{nt:Nat}{c:Code}{i id:Nat}{st jf a:Ss}{e:Exit}{b:Code}(h:uT K nt b 100000000000000 st (.exit id) jf)(k:aC K nt c (i+1) jf e a)(d:jY c i=Z (id,b):=by kernel_rfl)(f:mm nt c b i id=U:=by kernel_rfl):aC K nt c i st e a:=aC.Bz d f h rfl k
theorem neT {a:Int}(h:a≠0):(.bool (xL a 0):ab)=.bool U:=by rw[xK,Cb h]
theorem cOf {R:Mem->Prop}{a:Nat->Int->Int->V}{rv:ab}(hR:∀m c,R m->Kp m c eK->R c)
  (N:∀p i j m b,oz (a p i j)->Gd m->R m->Obj m b 0 [vP p 0,I i,I j]->∃c,Ev K 351 [vP b 0,rv] m (.tuple #[(a p i j).val,I 0]) c/\Kp m c eK):
  ∀(x:X) (m:Mem) (z:ab),Gd m->R m->XR B x m z->x.all oz (λp i j=>oz (a p i j))->
   ∃f b c,gP ae z "Of"=Z (f,vP b 0)/\Ev K f [vP b 0,rv] m (.tuple #[(sA a x).1.val,I (sA a x).2]) c/\Kp m c eK:=by
 intro x m z g G q r
 match x,q,r with
 | .lit u,q,r=>
  obtain⟨b,rfl,hb,n⟩:=q;obtain⟨v,L,A,k1,n1,_⟩:=bz g [I 0,I 0,.string .empty,.bool O];have D:fN 4 b 0 v=Z (u.val,v):=cL (vs:=u.cells) (n.a9 k1) rfl (af rfl);obtain⟨C,J,H,w⟩:=PV g k1 (aj _) A u;exact⟨346,b,C,mOf.2.1,bg (aoN b rv u _) (.mem L<|.mem D<|.mem J<|.mem H .nil),aca k1 w (aj _)⟩
 | .r7 p i j,q,r=>
  obtain⟨b,rfl,hb,n⟩:=q;obtain⟨c,e,k⟩:=N p i j m b r g G n;exact⟨351,b,c,mOf.2.2,e,k⟩
 | .bin op (.r7 p i j) (.r7 d l h),q,r=>
  obtain⟨b,lv,rv',rfl,hb,n,⟨bl,rfl,_,ol⟩,br,rfl,_,or⟩:=q;obtain⟨rfl,W,EK⟩:=r;obtain⟨v,L,A,k1,n1,_⟩:=bz g [I 0,I 0,.string .empty,.bool O];have D:=aO (m:=v) (o:=1) (n.a9 k1) rfl;obtain⟨C,J,w⟩:=N p i j v bl W (g.ext k1) (hR _ _ G k1) (ol.a9 k1);have P:=k1.aX w;obtain⟨m3,Q,H,e4,o4,T,n4⟩:=jV (g.ext P) [I 0,I 0,.string .empty,.bool O] (a p i j).cells rfl rfl;have s:=P.aX T;have l2:=aO (m:=Q) (o:=2) (n.a9 s) rfl;obtain⟨m5,e5,F⟩:=N d l h Q br EK (g.ext s) (hR _ _ G s) (or.a9 s);have CR:=s.aX F;obtain⟨m6,t,e6,e7,o7,E,n7⟩:=jV (g.ext CR) [I 0,I 0,.string .empty,.bool O] (a d l h).cells rfl rfl;have y:=CR.aX E;have la:=aO (m:=t) (o:=0) (n.a9 y) rfl;have lb:fN 4 C.next 0 t=Z ((a p i j).val,t):=cL (vs:=(a p i j).cells) ((o4.a9 F).a9 E) rfl (af rfl);have lc:fN 4 m5.next 0 t=Z ((a d l h).val,t):=cL (vs:=(a d l h).cells) o7 rfl (af rfl);obtain⟨m8,e8,S⟩:=aq6 (K:=K) (g.ext y) (a p i j) (a d l h) W EK;have M:=y.aX S;obtain⟨m9,e9,YC,k9⟩:=PV g M (aj _) ((((A.a9 w).a9 T).a9 F).a9 E|>.a9 S) (JO (a p i j) (a d l h));exact⟨329,b,m9,mOf.1,bg (alc b rv 11 0 0 0 _ _ (a p i j) (a d l h) (JO (a p i j) (a d l h)) ..) (.mem L<|.mem D<|.iZ mOf.2.2 J<|.mem H<|.mem e4<|.cond rfl<|.mem l2<|.iZ mOf.2.2 e5<|.mem e6<|.mem e7<|.cond rfl<|.mem la<|.mem lb<|.mem lc<|.mem (aJ (g.ext y))<|.call e8<|.mem (aJ (g.ext M))<|.mem e9<|.mem YC .nil),aca M k9 (aj _)⟩
end
def fT (l:List V):List ab:=l.flatMap V.cells
theorem jM (l:List V):(fT l).length=l.length*4:=by
 unfold fT
 induction l with
 |nil=>rfl
 |cons a l b=>simp only[List.flatMap_cons,List.length_append,b,List.length_cons];show 4+_=_;omega
theorem xA:∀{l:List V}{i:Nat}{x:V},l[i]?=Z x->((fT l).drop (i*4)).take 4=x.cells
 |a::l,0,x,h=>by
  simp only[List.getElem?_cons_zero,ah]at h;subst h;unfold fT;rw[List.flatMap_cons,Nat.zero_mul,List.drop_zero];exact List.take_left' rfl
 |a::l,i+1,x,h=>by
  unfold fT;have :(i+1)*4=a.cells.length+i*4:=by show _=4+_;omega
  rw[List.flatMap_cons,this,List.drop_length_add_append];exact xA (l:=l) (by simpa using h)
abbrev vS (m:Mem)(v:ab)(l:List V):Prop:=oX m v 4 l.length (fT l)
theorem vS.ld{m:Mem}{l:List V}{i b n c:Nat}{x:V}(h:vS m (vL b 0 n c) l)(a:l[i]?=Z x):fN 4 b (0+i*4) m=Z (x.val,m):=by
 obtain⟨_,⟨e,_⟩|⟨j,g,e,d,_⟩⟩:=h
 .cases e
 .cases e;have f:=(List.getElem?_eq_some_iff.1 a).1;exact cL d (by rw[Nat.zero_add];exact xA a) (by rw[jM];omega)
def cB:List V->List V->Int
 | [],[]=>0
 | [],_::_=> -1
 |_::_,[]=>1
 |a::l,b::r=>if oP a b≠0 then oP a b else cB l r
section
variable {K:fE}{m:Mem}
theorem Wn:jJ 154 3 [6]=U:=aM
theorem I1:jY (bX 154) 2=Z (0,(cj 154 [2])):=aM
theorem I6:mm (fp 154) (bX 154) (cj 154 [2]) 2 0=U:=aM
theorem akr (b a c d lb e:Nat):cV 154 0 2 [0,1,2] [vL b 0 a c,vL d 0 lb e,.func (.func 155) #[] #[]]
 []
 .normal [0,1,2,11,12,13] [vL b 0 a c,vL d 0 lb e,.func (.func 155) #[] #[],vL b 0 a c,I a,I 0]:=cT
theorem akl (i b a c d lb e:Nat):aY 154 [2] 0 99 [0,1,2,11,12,13] [vL b 0 a c,vL d 0 lb e,.func (.func 155) #[] #[],vL b 0 a c,I a,I i]
 [bu (dx i a) O]
 (.exit 0) [0,1] [vL b 0 a c,vL d 0 lb e]:=cT
theorem akp (i b a c d lb e:Nat)(x:V)(fH:Nat):aY 154 [2] 0 99 [0,1,2,11,12,13] [vL b 0 a c,vL d 0 lb e,.func (.func 155) #[] #[],vL b 0 a c,I a,I i]
 [bu (dx i a) U,
  .idx i a i,
  .mem (fN 4 b (0+i*4)) (nQ x),
  jF MV fH,
  rJ fH 0 (MW x),
  bu (th i lb) U]
 .ret [6] [I 1]:=cT
theorem akm (i b a f e lb g:Nat)(x y:V)(c:Int)(fH d:Nat):aY 154 [2] 0 99 [0,1,2,11,12,13] [vL b 0 a f,vL e 0 lb g,.func (.func 155) #[] #[],vL b 0 a f,I a,I i]
 [bu (dx i a) U,
  .idx i a i,
  .mem (fN 4 b (0+i*4)) (nQ x),
  jF MV fH,
  rJ fH 0 (MW x),
  bu (th i lb) O,
  .idx i lb i,
  .mem (fN 4 e (0+i*4)) (nQ y),
  jF MV d,
  rJ d 0 (MW y),
  vT 4 fH (nQ x),
  vT 4 d (nQ y),
  .bZ (.func (.func 155) #[] #[]) [nQ x,nQ y] (I c),
  bu (xL c 0) U]
 .ret [6] [I c]:=cT
theorem akn (i b a d e lb g:Nat)(x y:V)(c:Int)(fH f:Nat):aY 154 [2] 0 99 [0,1,2,11,12,13] [vL b 0 a d,vL e 0 lb g,.func (.func 155) #[] #[],vL b 0 a d,I a,I i]
 [bu (dx i a) U,
  .idx i a i,
  .mem (fN 4 b (0+i*4)) (nQ x),
  jF MV fH,
  rJ fH 0 (MW x),
  bu (th i lb) O,
  .idx i lb i,
  .mem (fN 4 e (0+i*4)) (nQ y),
  jF MV f,
  rJ f 0 (MW y),
  vT 4 fH (nQ x),
  vT 4 f (nQ y),
  .bZ (.func (.func 155) #[] #[]) [nQ x,nQ y] (I c),
  bu (xL c 0) O]
 .normal [0,1,2,11,12,13] [vL b 0 a d,vL e 0 lb g,.func (.func 155) #[] #[],vL b 0 a d,I a,I (bU i 1)]:=cT
theorem ako (c a e b lb d:Nat):cV 154 3 99 [0,1] [vL c 0 a e,vL b 0 lb d]
 [bu (dx a lb) U]
 .ret [6] [I (-1)]:=cT
theorem akq (c a e b lb d:Nat):cV 154 3 99 [0,1] [vL c 0 a e,vL b 0 lb d]
 [bu (dx a lb) O]
 .ret [6] [I 0]:=cT
theorem ao9 (c d f b lb e:Nat)(a:Int):Path 117 [vL c 0 d f,vL b 0 lb e]
 [.call 154 [vL c 0 d f,vL b 0 lb e,.func (.func 155) #[] #[]] (I a)]
 (I a):=lF
theorem wu:jz 154 [2]:=aM
theorem Hj:(dq (bX 154)).length<=99:=af aM
theorem arp (g:Gd m){a b:List V}{d l c j:Nat}(ha:vS m (vL d 0 a.length l) a)(hb:vS m (vL c 0 b.length j) b)(hl:a.length<99999):
  ∃z,Ev K 154 [vL d 0 a.length l,vL c 0 b.length j,.func (.func 155) #[] #[]] m (I (cB a b)) z/\Kp m z eK:=by
 obtain⟨A,F⟩:∃A,A=vL d 0 a.length l:=⟨_,rfl⟩;obtain⟨B,E⟩:∃B,B=vL c 0 b.length j:=⟨_,rfl⟩;obtain⟨t0,N,e0⟩:=aU (K:=K) (tm:=entry [vL d 0 a.length l,vL c 0 b.length j,.func (.func 155) #[] #[]]) (akr d a.length l c b.length j) rfl (.nil (m:=m));obtain⟨e,t1,C,he,r,kp,hp⟩:=j7 (K:=K) (nt:=fp 154) (a:=cj 154 [2])
  (Inv:=λn tm z=>∃i,n=a.length-i/\i<=a.length/\i<=b.length/\bj [0,1,2,11,12,13] tm=[A,B,.func (.func 155) #[] #[],A,I (a.length:Int),I i]/\Kp m z eK/\cB a b=cB (a.drop i) (b.drop i))
  (dm:=λe tm z=>Kp m z eK/\((e=.exit 0/\bj [0,1] tm=[A,B]/\a.length<=b.length/\cB a b=cB [] (b.drop a.length))\/(e=.ret/\bj [6] tm=[I (cB a b)])))
  (by
   rintro n tm C ⟨i,rfl,hi,hib,f,k,t⟩;have g1:=g.ext k;have R:=ha.a9 k;have W:=hb.a9 k;rw[F,E]at f
   by_cases q:i<a.length
   .obtain⟨x,r⟩:∃x,a[i]?=Z x:=⟨a[i],List.getElem?_eq_getElem q⟩;have s:a.drop i=x::a.drop (i+1):=by rw[List.drop_eq_getElem_cons q];congr 1;exact Option.some.inj ((List.getElem?_eq_getElem q).symm.trans r)
    have Q:(.bool (dx i (a.length:Int)):ab)=.bool U:=by rw[fW,Cb ai]
    obtain⟨m2,m3,u,P,T,D,n3⟩:=jV g1 (V.cells ⟨0,0,.empty,O⟩) x.cells rfl rfl
    by_cases o:i<b.length
    .obtain⟨y,J⟩:∃y,b[i]?=Z y:=⟨b[i],List.getElem?_eq_getElem o⟩;have EJ:b.drop i=y::b.drop (i+1):=by rw[List.drop_eq_getElem_cons o];congr 1;exact Option.some.inj ((List.getElem?_eq_getElem o).symm.trans J)
     have g3:=g1.ext D;obtain⟨m4,m5,e4,e5,S,G,n5⟩:=jV g3 (V.cells ⟨0,0,.empty,O⟩) y.cells rfl rfl;have g5:=g3.ext G;obtain⟨X,e6,k6⟩:=anA (K:=K) g5 x y;have kk:=((k.aX D).aX G).aX k6
     by_cases H:oP x y=0
     .left
      have L:xL (oP x y) 0=O:=by rw[xK,yz (by simp[H])]
      obtain⟨p,v,w⟩:=aL wu (akn i d a.length l c b.length j x y _ _ _) f (.cond Q<|.idx rfl q<|.mem (vS.ld R r)<|.mem u<|.mem P<|.cond (by rw[Js,yz ai])<|.idx rfl o<|.mem (vS.ld (W.a9 D) J)<|.mem e4<|.mem e5<|.mem (cL (T.a9 G) rfl (aj 4))<|.mem (cL S rfl (aj 4))<|.bZ e6<|.cond (by rw[L]) .nil);refine⟨a.length-(i+1),p,X,ai,v,i+1,rfl,q,o,?_,kk,?_⟩
      .rw[w,qy ⟨ai,ai⟩,F,E];rfl
      .rw[t,s,EJ]
       show(if oP x y≠0 then oP x y else cB (a.drop (i+1)) (b.drop (i+1)))=_
       rw[bH (by simp[H])]
     .right
      have L:xL (oP x y) 0=U:=by rw[xK,Cb H]
      obtain⟨p,v,w⟩:=aL wu (akm i d a.length l c b.length j x y _ _ _) f (.cond Q<|.idx rfl q<|.mem (vS.ld R r)<|.mem u<|.mem P<|.cond (by rw[Js,yz ai])<|.idx rfl o<|.mem (vS.ld (W.a9 D) J)<|.mem e4<|.mem e5<|.mem (cL (T.a9 G) rfl (aj 4))<|.mem (cL S rfl (aj 4))<|.bZ e6<|.cond (by rw[L]) .nil);refine⟨_,p,X,(by intro h;cases h),v,kk,.inr ⟨rfl,?_⟩⟩;rw[w,t,s,EJ]
      show _=[I (if oP x y≠0 then oP x y else _)]
      rw[bh H]
    .right
     obtain⟨p,v,w⟩:=aL wu (akp i d a.length l c b.length j x _) f
      (.cond Q<|.idx rfl q<|.mem (vS.ld R r)<|.mem u<|.mem P<|.cond (by rw[Js,Cb ai]) .nil)
     refine⟨_,p,m3,(by intro h;cases h),v,k.aX D,.inr ⟨rfl,?_⟩⟩;rw[w,t,s,show b.drop i=[]from List.drop_of_length_le ai];rfl
   .right
    obtain⟨p,v,w⟩:=aL wu (akl i d a.length l c b.length j) f (.cond (by rw[fW,yz ai]) .nil);refine⟨_,p,C,(by intro h;cases h),v,k,.inl ⟨rfl,by rw[w,F,E],ai,?_⟩⟩;have :i=a.length:=ai;rw[t,this,List.drop_length])
  (n:=a.length) (k:=100000000000000) (tm:=t0) (m:=m) ⟨0,ai,ai,ai,by rw[e0,F,E];rfl,Kp.refl _ _,rfl⟩ ai
 refine⟨C,?_,kp⟩;rcases hp with⟨rfl,f,hle,t⟩|⟨rfl,f⟩
 .rw[F,E]at f
  by_cases q:a.length<b.length
  .obtain⟨p,o,u⟩:=aU (ako d a.length l c b.length j) f (.cond (K:=K) (by rw[fW,Cb ai]) (.nil (m:=C)));have M:cB a b= -1:=by rw[t,List.drop_eq_getElem_cons q];rfl
   rw[M];exact dE Wn (aC.cut N (aC.Bz I1 I6 r rfl (aC.last o Hj))) (.inr rfl) u
  .obtain⟨p,o,u⟩:=aU (akq d a.length l c b.length j) f (.cond (K:=K) (by rw[fW,yz ai]) (.nil (m:=C)));have M:cB a b=0:=by rw[t,List.drop_of_length_le ai];rfl
   rw[M];exact dE Wn (aC.cut N (aC.Bz I1 I6 r rfl (aC.last o Hj))) (.inr rfl) u
 .exact dE Wn (aC.cut N (aC.By I1 I6 r aM)) (.inr rfl) f
theorem arx (g:Gd m){a b:List V}{d h c f:Nat}(l:vS m (vL d 0 a.length h) a)(k:vS m (vL c 0 b.length f) b)(j:a.length<99999):
  ∃e,Ev K 117 [vL d 0 a.length h,vL c 0 b.length f] m (I (cB a b)) e/\Kp m e eK:=by
 obtain⟨i,n,k1⟩:=arp (K:=K) g l k j;exact⟨i,bg (ao9 ..) (.call n .nil),k1⟩
end
section
variable {K:fE}{c:Nat}{M1 M2:ab}{B:Nat->Prop}
theorem aeC {m m0:Mem}{S:Nat->Prop}{v:ab}{b s:Nat}(g:Gd m0)(k:Kp m0 m S)(d:m0.next<=b)(a:oS v=Z b)(c:(m.blk b).bq=s):dH (I s) v (oJ v) m=Z (undef,m):=ahO a (by rw[k.floor];have :=g.fn;omega) c
end
def AZ {α:Type}(E:pI α)(sz:Nat)(B:Nat->Prop)(m:Mem)(acc:List α)(sv:ab):Prop:=
 (acc=[]/\sv=.slice none 0 0)\/∃b cs c,sv=vL b 0 acc.length c/\(c=dp\/c=acc.length)/\0<acc.length/\B b/\Obj m b sz cs/\cE (λx u=>E.R (λy=>B y/\y≠b) x m u/\okV sz u) acc cs
section
variable {α:Type}{E:pI α}{sz t:Nat}{m0 m m1:Mem}{acc:List α}{sv v:ab}{S B B':Nat->Prop}{x:α}
theorem AZ.ext(h:AZ E sz B m acc sv)(k:Kp m m1 S)(d:∀b,B b->¬S b):AZ E sz B m1 acc sv:=by
 rcases h with h|⟨b,n,c,e,j,i,a,f,l⟩
 .exact .inl h
 .exact .inr ⟨b,n,c,e,j,i,a,f.ext k (d b a),l.mono λx u _ w=>⟨E.ext w.1 k λy g=>d y g.1,w.2⟩⟩
theorem AZ.a9(h:AZ E sz B m acc sv)(k:Kp m m1 eK):AZ E sz B m1 acc sv:=h.ext k λ_ _ h=>h
theorem AZ.fin(h:AZ E sz B m acc sv):(aW E sz).R B acc m sv:=by
 rcases h with⟨rfl,rfl⟩|⟨b,j,c,rfl,g,n,i,d,a⟩
 .exact aW.nil
 .exact⟨j,d.sl a.one.1 g,λp k l o e=>(by cases e;exact i),a.mono λx u _ w=>⟨E.mono w.1 λy f=>f.1,w.2⟩⟩
theorem AZ.nil:AZ E sz B m [] (.slice none 0 0):=.inl ⟨rfl,rfl⟩
theorem AZ.add(h:AZ E sz B m acc sv)(g:Gd m)(g0:Gd m0)(h0:Kp m0 m S)(r:uA.contains (t,sz)=U)(D:sz<=6)(l:∀b,B b->m0.next<=b/\b<m.next)(q:E.R B' x m v)(hd:∀b,B b->¬B' b)(L:∀b,B' b->b<m.next)(j:okV sz v)(hl:acc.length<2^30\/t=22/\acc.length<2^44):
  ∃a d A,bW ae t 1 [(0,v)] m=Z (vL m.next 0 1 1,a)/\Gd a/\Kp m a eK/\cJ ae #[t,t] sv (vL m.next 0 1 1) a=Z (A,d)/\Kp m d B/\AZ E sz (λy=>B y\/B' y\/y=m.next+1) d (acc++[x]) A/\nT A=U/\d.next=m.next+2:=by
 obtain⟨J,i,n2⟩:=iy g (k:={kind:=1,sz:=sz,cs:=v.cells.toList.map Z}) (cs:=v.cells.toList) rfl rfl rfl;obtain⟨a,M⟩:∃a,a=m.alloc {kind:=1,sz:=sz,cs:=v.cells.toList.map Z}:=⟨_,rfl⟩;have H:=bs1 (m:=m) r j.1 D;rw[<-M]at H J i n2;have p:=g.ext i;have z:oX a (vL m.next 0 1 1) sz 1 v.cells.toList:=J.sl (by simp[j.1]) (.inr rfl);have V:=E.ext q i λ_ _ h=>h
 rcases h with⟨rfl,rfl⟩|⟨b,cs,c,rfl,hc,hp,s,W,F⟩
 .obtain⟨d,G,C,o,n3⟩:=Rk p r z j.2 eJ eJ;refine⟨a,d,_,H,p,i,G,(i.aX o).sC,?_,rfl,ai⟩;refine .inr ⟨a.next,_,dp,rfl,.inl rfl,dA,.inr (.inr ai),C,⟨v,[],dA,⟨E.mono (E.ext V o λ_ _ h=>h) λy f=>⟨.inr (.inl f),by have :=L y f;omega⟩,j⟩,rfl⟩⟩
 .have X:=(l b s).1;have nJ:=(l b s).2;have n:=W.a9 i;have S6:∃d,cJ ae #[t,t] (vL b 0 acc.length c) (vL m.next 0 1 1) a=Z (vL a.next 0 (acc.length+1) dp,d)/\Obj d a.next sz (cs++v.cells.toList)/\Kp a d (λy=>y=b)/\d.next=a.next+1:=by
   rcases hc with rfl|rfl
   .exact adx (rest:=[]) p r (by simpa using n) F.one.1 (g0.own (h0.aX i) X) z j.2 ai
   .obtain⟨d,T,Q,P,N⟩:=MN p r n F.one.1 eJ z j.2 ai;exact⟨d,T,Q,P.sC,N⟩
  obtain⟨d,G,C,o,n3⟩:=S6;refine⟨a,d,_,H,p,i,G,(i.sC.trans (o.mono λy _ h=>by rw[h];exact s) λ_ _ h=>h),?_,rfl,ai⟩;have K:Kp m d (λy=>y=b):=i.sC.trans o λ_ _ h=>h
  refine .inr ⟨a.next,_,dp,dA,.inl rfl,dA,.inr (.inr ai),C,cE.snoc ⟨E.mono (E.ext q K λy f e=>hd b s (e▸f)) λy f=>⟨.inr (.inl f),by have :=L y f;omega⟩,j⟩
   (F.mono λx u _ w=>⟨E.mono (E.ext w.1 K λy f e=>f.2 e) λy f=>⟨.inl f.1,by have :=l y f.1;omega⟩,w.2⟩)⟩
end
def jc:pI (Option X) where
 R B x m v:=match x with |none=>v=.nilIface|some x=>XR B x m v
 mono:=by
  rintro B B' x m v h k;cases x with
  |none=>exact h
  |some x=>exact XR.mono k h
 ext:=by
  rintro B S x m m' v h k hs;cases x with
  |none=>exact h
  |some x=>exact XR.ext k hs h
theorem Kz:∀(vs c a d:List ab),c.length=vs.length->vd (a++(c++d)) a.length vs=a++(vs++d)
 | [],[],a,d,_=>rfl
 | [],x::c,a,d,h=>by simp at h
 |v::vs,[],a,d,h=>by simp at h
 |v::vs,x::c,a,d,h=>by
  unfold vd;have e:(a++(x::c++d)).set a.length v=(a++[v])++(c++d):=dA;rw[e,show a.length+1=(a++[v]).length by simp,Kz vs c (a++[v]) d (by simpa using h)];simp
theorem tO (a b:List V):fT (a++b)=fT a++fT b:=by unfold fT;simp
theorem A3 (x:V)(b:List V):fT (x::b)=x.cells++fT b:=by unfold fT;simp
theorem aoa {a b:List V}(x u:V):vd (fT (a++x::b)) (a.length*4) u.cells=fT (a++[u]++b):=by
 rw[tO,A3,<-jM a,Kz u.cells x.cells (fT a) (fT b) rfl,tO,tO,A3];simp[fT]
theorem aiQ:ae.underlying 47=Z (.slice 49):=aM
theorem aeS:iT ae 49=Z j6.val:=aM
noncomputable def Qx:Bool:=match ae.info? 49 with |some i=>Nat.beq i.size 4&&Nat.ble i.bytes 1000|none=>O
theorem agK:∃i,ae.info? 49=Z i/\i.size=4/\i.bytes<=1000:=by
 have h:Qx=U:=aM;unfold Qx at h
 split at h
 .rename_i i a;rw[ag]at h;exact⟨i,a,aA h.1,af h.2⟩
 .cases h
theorem anW (n:Nat):((Array.range (n*4)).map (j6.val.cells[·%j6.val.cells.size]!)).toList=fT (List.replicate n j6):=by
 rw[Array.toList_map,Array.toList_range]
 induction n with
 |zero=>rfl
 |succ n a=>
  rw[show(n+1)*4=n*4+4 by omega,List.range_add,List.map_append,a,List.replicate_succ',tO]
  congr 1
  have h:j6.val.cells.size=4:=rfl;have e:(n*4+0)%4=0:=ai;have d:(n*4+1)%4=1:=ai;have c:(n*4+2)%4=2:=ai;have b:(n*4+3)%4=3:=ai
  show[j6.val.cells[(n*4+0)%j6.val.cells.size]!,j6.val.cells[(n*4+1)%j6.val.cells.size]!,j6.val.cells[(n*4+2)%j6.val.cells.size]!,j6.val.cells[(n*4+3)%j6.val.cells.size]!]=_
  rw[h,e,d,c,b];rfl
theorem apu {m:Mem}{n:Nat}(c:n<2^30):gC ae 47 (I n) (I n) m=Z (vL m.next 0 n n,m.alloc {kind:=1,sz:=4,cs:=(fT (List.replicate n j6)).map Z}):=by
 obtain⟨i,b,a,f⟩:=agK;unfold gC;simp only[aiQ,b,aeS];have d:(n:Int)*(i.bytes:Int)<=(n:Int)*1000:=Int.mul_le_mul_of_nonneg_left ai ai;rw[bh ⟨ai,ai,ai,ai⟩];have e:((n:Int).toNat)=n:=ai;rw[e,a,anW]
def bD:pI (List V) where
 R B x m v:=∃b c,v=vL b 0 x.length c/\B b/\Obj m b 4 (fT x)/\(c=dp\/c=x.length)
 mono:=by
  rintro B B' x m v ⟨b,c,e,hb,o,h⟩ k;exact⟨b,c,e,k b hb,o,h⟩
 ext:=by
  rintro B S x m m' v ⟨b,c,e,hb,o,h⟩ k hs;exact⟨b,c,e,hb,o.ext k (hs b hb),h⟩
theorem bD.ok{B:Nat->Prop}{x:List V}{m:Mem}{v:ab}(h:bD.R B x m v):okV 1 v:=by
 obtain⟨b,c,rfl,_⟩:=h;exact⟨rfl,by simp[ab.cells,ab.oneCell']⟩
def nU (cv:Nat->Int->Int->V):List X->List V->List V×Int
 | [],acc=>(acc,0)
 |x::l,acc=>if(sA cv x).2≠0 then([],(sA cv x).2)else nU cv l (acc++[(sA cv x).1])
structure Scope (K:fE)(R:Mem->Prop)(cv:Nat->Int->Int->V)(rv:ab):Prop where
 keep:∀m m',R m->Kp m m' eK->R m'
 r7:∀p i j m b,oz (cv p i j)->Gd m->R m->Obj m b 0 [vP p 0,I i,I j]->∃m',Ev K 351 [vP b 0,rv] m (.tuple #[(cv p i j).val,I 0]) m'/\Kp m m' eK
def TX (cv:Nat->Int->Int->V)(x:X):Prop:=x.all oz (λp i j=>oz (cv p i j))
section
variable {K:fE}{B:Nat->Prop}{m m0:Mem}
theorem ak7 (n cc:Nat)(a:Option Addr)(sv rv:ab)(fH:Nat):cV 111 0 3 [0,1,2] [sv,.slice a n cc,rv]
 [.mem (gC ae 47 (I n) (I n)) (vL fH 0 n n)]
 .normal [0,2,8,16,17,18] [sv,rv,vL fH 0 n n,.slice a n cc,I n,I 0]:=cT
theorem ak4 (q n cc i:Nat)(a:Option Addr)(sv rv:ab):aY 111 [3] 0 99 [0,2,8,16,17,18] [sv,rv,vL q 0 n n,.slice a n cc,I n,I i]
 [bu (dx i n) O]
 (.exit 0) [0,8] [sv,vL q 0 n n]:=cT
theorem ak6 (p q n cc i:Nat)(sv rv a:ab)(u:V)(z:Int)(fH:Nat):aY 111 [3] 0 99 [0,2,8,16,17,18] [sv,rv,vL q 0 n n,vL p 0 n cc,I n,I i]
 [bu (dx i n) U,
  .idx i n i,
  .mem (aI p (0+i*1)) a,
  .iZ (gP ae a "Of") [rv] (.tuple #[nQ u,I z]),
  jF MV fH,
  rJ fH 0 (MW u),
  bu (xL z 0) U]
 .ret [6,7] [ei,I z]:=cT
theorem ak5 (p q n cc i:Nat)(sv rv a:ab)(u:V)(fH:Nat):aY 111 [3] 0 99 [0,2,8,16,17,18] [sv,rv,vL q 0 n n,vL p 0 n cc,I n,I i]
 [bu (dx i n) U,
  .idx i n i,
  .mem (aI p (0+i*1)) a,
  .iZ (gP ae a "Of") [rv] (.tuple #[nQ u,I 0]),
  jF MV fH,
  rJ fH 0 (MW u),
  jT,
  vT 4 fH (nQ u),
  .idx i n i,
  rJ q (0+i*4) (MW u)]
 .normal [0,2,8,16,17,18] [sv,rv,vL q 0 n n,vL p 0 n cc,I n,I (bU i 1)]:=cT
theorem ak3 (q n:Nat)(sv a:ab)(fH:Nat):cV 111 4 99 [0,8] [sv,vL q 0 n n]
 [.mem (bW ae 29 1 [(0,(vL q 0 n n))]) (vL fH 0 1 1),
  .mem (cJ ae #[29,29] sv (vL fH 0 1 1)) a]
 .ret [6,7] [a,I 0]:=cT
theorem alH:jJ 111 3 [6,7]=U:=aM
theorem St:(dq (bX 111)).length<=99:=af aM
theorem IP:jz 111 [3]:=aM
end
structure Sd (m:Mem):Prop where
 deaf:m.deaf=0
 bf:m.base<=m.floor
 fn:m.floor<=m.next
 hn:m.home<=m.next
 bI:∀s∈m.bI,s.2.1<=m.next
section
variable {m m':Mem}{S B:Nat->Prop}
theorem Gd.sd(h:Gd m):Sd m:=⟨h.deaf,h.bf,h.fn,h.hn,h.bI⟩
theorem Sd.ext(h:Sd m)(k:Kp m m' S):Sd m':=
 ⟨k.deaf.trans h.deaf,by rw[k.base,k.floor];exact h.bf,by rw[k.floor];exact bV h.fn k.next,by rw[k.home];exact bV h.hn k.next,λs a=>by rw[k.bI]at a;exact bV (h.bI s a) k.next⟩
theorem Sd.fresh(h:Sd m){b:Nat}(c:m.next<=b):aP m.bI b=O:=iC λx a _ d=>by have :=h.bI x a;omega
theorem Sd.own(h:Sd m)(k:Kp m m' S){b:Nat}(a:m.next<=b):Own m' b:=by
 have c:=h.fresh a;unfold Own Mem.fL;rw[k.bI,k.base,k.floor,c];have :=h.bf;have :=h.fn;simp only[Bool.not_false,Bool.true_and,ag,Bool.or_eq_true,iU];exact⟨ai,.inl ai⟩
theorem Sd.alloc(h:Sd m)(cs:List ab):∃m',oT (cs.map Z) m=Z (vP m.next 0,m')/\Obj m' m.next 0 cs/\Kp m m' eK/\m'.next=m.next+1/\(m'.blk m.next).pos=1:=by
 refine⟨m.alloc ⟨1,0,cs.map Z,#[],0,.empty,1,0⟩,rfl,⟨Nat.lt_succ_self _,?_,?_,?_,h.fresh (aj _)⟩,⟨Nat.le_succ _,rfl,rfl,rfl,rfl,rfl,rfl,rfl,rfl,λx a _=>?_⟩,rfl,?_⟩
 .rw[Mem.cC,bh rfl]
 .rw[Mem.cC,bh rfl]
 .rw[Mem.cC,bh rfl]
 .rw[Mem.cC,bH ai]
 .rw[Mem.cC,bh rfl]
theorem Sd.ZL(h:Sd m)(z v:ab)(e:nT v=U):∃d c,oT [Z z] m=Z (vP m.next 0,d)/\du m.next 0 v d=Z (undef,c)/\Obj c m.next 0 [v]/\Kp m c eK/\c.next=m.next+1:=by
 obtain⟨d,k,g,k1,l,_⟩:=h.alloc [z];obtain⟨c,a,f,i⟩:=gj (o:=0) v g ((h.own k1 (aj _)).may _ _) (af rfl) e;have n:c.next=d.next:=by
  unfold du at a;rw[e]at a;simp only at a
  split at a
  .split at a
   .split at a
    .cases a;rfl
    .cases a
   .cases a
  .cases a
 exact⟨d,c,k,a,f,k1.new i (N:=m.next) (aj _) λb j=>by rw[j];exact aj _,ai⟩
structure RO (m:Mem)(b sz:Nat)(cs:List ab):Prop where
 lt:b<m.next
 kind:(m.blk b).kind=1
 sz:(m.blk b).sz=sz
 cs:(m.blk b).cs=cs.map Z
theorem Obj.ro{b sz:Nat}{cs:List ab}(h:Obj m b sz cs):RO m b sz cs:=⟨h.lt,h.kind,h.sz,h.cs⟩
theorem RO.obj{b sz:Nat}{cs:List ab}(h:RO m b sz cs)(a:aP m.bI b=O):Obj m b sz cs:=⟨h.lt,h.kind,h.sz,h.cs,a⟩
theorem RO.ext{b sz:Nat}{cs:List ab}(h:RO m b sz cs)(k:Kp m m' S)(a:¬S b):RO m' b sz cs:=by
 have e:=k.blk b h.lt a;exact⟨aZ h.lt k.next,by rw[e];exact h.kind,by rw[e];exact h.sz,by rw[e];exact h.cs⟩
theorem RO.ld1{b sz o:Nat}{cs:List ab}{v:ab}(h:RO m b sz cs)(e:cs[o]?=Z v)(hm:meets m.bI b o 1=O):aI b o m=Z (v,m):=by
 unfold aI;have a:=h.kind;have d:=h.cs;cases hb:m.blk b with
 |mk kind z c es clock str pos j=>
  rw[hb]at a d;simp only at a d;subst a d;simp only[EF,hm,Bool.not_false,zu];have :(cs.map Z).drop o=Z v::(cs.drop (o+1)).map Z:=by
   rw[<-List.map_drop];have g:cs.drop o=v::cs.drop (o+1):=by
    obtain⟨i,f⟩:=List.getElem?_eq_some_iff.1 e;rw[<-f];exact List.drop_eq_getElem_cons i
   rw[g];rfl
  rw[this]
theorem RO.I4{b sz o:Nat}{cs:List ab}{v:ab}(h:RO m b sz cs)(a:cs[o]?=Z v)(hm:meets m.bI b o 1=O):m.dP b o 1=Z [v]:=by
 obtain⟨d,c⟩:=List.getElem?_eq_some_iff.1 a;unfold Mem.dP;simp only[h.kind,hm,h.cs,beq_self_eq_true,Bool.not_false,Bool.and_self,if_true];rw[<-List.map_drop,lI (by simp;omega),List.drop_eq_getElem_cons d,c];rfl
theorem RO.jf{b sz o:Nat}{cs:List ab}(v:ab)(h:RO m b sz cs)(k:m.dh b o 1=U)(n:o<cs.length)(p:nT v=U):
  ∃m',du b o v m=Z (undef,m')/\RO m' b sz (cs.set o v)/\Kp m m' (λx=>x=b)/\m'.next=m.next:=by
 obtain⟨l,i⟩:=G1 (v:=v) n;have g:=CC _ _ _ _ i;rw[ny (cs:=cs) (o:=o) (vs:=[v]) (by simp;omega)]at g;obtain rfl:=Option.some.inj g;have d:=h.kind;have f:=h.cs;have a:=h.sz;unfold du;cases hb:m.blk b with
 |mk kind z c es clock str pos q=>
  rw[hb]at d f a;simp only at d f a;subst d f a;simp only[p,Qm k,i];refine⟨_,rfl,⟨h.lt,?_,?_,?_⟩,⟨aj _,rfl,rfl,rfl,rfl,rfl,rfl,rfl,rfl,λx _ j=>?_⟩,rfl⟩
  .show((m.heap.put b _).get b).kind=1
   rw[jE.get_put,bh rfl]
  .show((m.heap.put b _).get b).sz=_
   rw[jE.get_put,bh rfl]
  .show((m.heap.put b _).get b).cs=_
   rw[jE.get_put,bh rfl];rfl
  .show(m.heap.put b _).get x=m.blk x
   rw[jE.get_put,bH (λe=>j e.symm)];rfl
structure uB (B:Nat->Prop)(m m':Mem):Prop where
 next:m.next<=m'.next
 blk:∀b,B b->b<m.next->m'.blk b=m.blk b/\(aP m.bI b=O->aP m'.bI b=O)
theorem uB.trans{d:Mem}(h:uB B m d)(k:uB B d m'):uB B m m':=
 ⟨bV h.next k.next,λb c a=>⟨(k.blk b c (aZ a h.next)).1.trans (h.blk b c a).1,λx=>(k.blk b c (aZ a h.next)).2 ((h.blk b c a).2 x)⟩⟩
theorem uB.mono{B':Nat->Prop}(h:uB B m m')(k:∀b,B' b->B b):uB B' m m':=⟨h.next,λb a=>h.blk b (k b a)⟩
theorem Kp.same(k:Kp m m' S)(h:∀b,B b->¬S b):uB B m m':=⟨k.next,λb c a=>⟨k.blk b a (h b c),λx=>by rw[k.bI];exact x⟩⟩
theorem Obj.pX{b sz:Nat}{cs:List ab}(h:Obj m b sz cs)(s:uB B m m')(a:B b):Obj m' b sz cs:=by
 obtain⟨e,v⟩:=s.blk b a h.lt;exact⟨aZ h.lt s.next,by rw[e];exact h.kind,by rw[e];exact h.sz,by rw[e];exact h.cs,v h.Dh⟩
def pI.FG{α:Type}(E:pI α):Prop:=∀(B:Nat->Prop) (x:α) (m m':Mem) (v:ab),E.R B x m v->uB B m m'->E.R B x m' v
theorem XR.jq:∀{x:X}{v:ab},XR B x m v->uB B m m'->XR B x m' v
 | .bin ..,_,⟨b,d,c,e,hb,o,g,f⟩,s=>⟨b,d,c,e,hb,o.pX s hb,XR.jq g s,XR.jq f s⟩
 | .no ..,_,⟨b,a,e,hb,o,h⟩,s=>⟨b,a,e,hb,o.pX s hb,XR.jq h s⟩
 | .isn ..,_,⟨b,a,e,hb,o,h⟩,s=>⟨b,a,e,hb,o.pX s hb,XR.jq h s⟩
 | .lit ..,_,⟨b,e,hb,o⟩,s=>⟨b,e,hb,o.pX s hb⟩
 | .r7 ..,_,⟨b,e,hb,o⟩,s=>⟨b,e,hb,o.pX s hb⟩
theorem oK.jq:oK.FG:=λ_ _ _ _ _ h s=>XR.jq h s
theorem jj.jq{α:Type}{val:α->ab}:(jj val).FG:=λ_ _ _ _ _ h _=>h
theorem bD.jq:bD.FG:=by
 rintro B x m m' v ⟨b,c,e,a,o,h⟩ s;exact⟨b,c,e,a,o.pX s a,h⟩
theorem aW.jq{α:Type}{E:pI α}{sz:Nat}(f:E.FG):(aW E sz).FG:=by
 rintro B l m m' v ⟨h,d,a,g⟩ s;refine⟨h,⟨d.1,d.2.imp id ?_⟩,a,g.mono λx u _ w=>⟨f _ _ _ _ _ w.1 s,w.2⟩⟩;rintro⟨b,c,e,o,x⟩;exact⟨b,c,e,o.pX s (a _ _ _ _ e),x⟩
end
noncomputable def KW:fE:=⟨λ_ n=>og ae X0 n,λ_ _ _ _ _ _=>rfl⟩
structure B9 (K:fE):Prop where
 go:∀M n args m,K.C M (n+1) 137 args m=xE X0 (og ae X0 M) args m
 wait:∀M n args m,K.C M (n+1) 140 args m=Hn args m
theorem UG {K:fE}(E:B9 K){m e g:Mem}{w f d o i:Nat}{c:Array ab}{l rest:List Span}{u:ab}(F:tS X0 (.func (.func f) #[] c) m=Z (d,o,i))(j:mo w d o m=Z e)
  (z:BD (mU e w (.func (.func f) #[] c)) d o i=Z l)(y:rest=e.opn.filter λs=>!l.contains s)(x:e.deaf=0)(G:e.pend.length<4)(B:(l.all λs=>e.opn.contains s)=U)(C:j0 l=U)
  (q:(l.all λs=>(rest++e.bI).all (yj s))=U)(J:((rest++l).all λt=>Nat.ble t.2.1 e.next)=U)(A:(l.all λs=>Nat.beq s.2.1 (s.1+1)&&Nat.beq ((mU e w (.func (.func f) #[] c)).blk s.1).kind 1)=U)
  (h:Ev KW f c.toList (dK (mU e w (.func (.func f) #[] c)) l rest) u g)(H:g.deaf=0):
  Ev K 137 [vP w 0,.func (.func f) #[] c] m (.tuple #[]) (km (mU e w (.func (.func f) #[] c)) g l rest):=by
 obtain⟨N,D⟩:=h;refine⟨N+1,λM n a b=>?_⟩;obtain⟨n,rfl⟩:∃k,n=k+1:=⟨n-1,ai⟩;rw[E.go];have h:=D M M ai ai;have h:og ae X0 M f c.toList (dK (mU e w (.func (.func f) #[] c)) l rest)=Z (u,g):=h;have p:C3 (og ae X0 M) (.func (.func f) #[] c) [] (dK (mU e w (.func (.func f) #[] c)) l rest)=Z (u,g):=by
  show og ae X0 M f (([]:List ab)++[]++c.toList) _=_
  simpa using h
 unfold xE;simp only[F,j];have L:BD (cI (cI e 0 [ptrTo w 0]).2 0 [.func (.func f) #[] c]).2 d o i=Z l:=z;rw[L];have v:((cI (cI e 0 [ptrTo w 0]).2 0 [.func (.func f) #[] c]).2.opn.filter λs=>!l.contains s)=rest:=y.symm;simp only[v];rw[bh ⟨x,G,B,C,q,J,A⟩];have r:C3 (og ae X0 M) (.func (.func f) #[] c) [] { (cI (cI e 0 [ptrTo w 0]).2 0 [.func (.func f) #[] c]).2 with home:=(cI (cI e 0 [ptrTo w 0]).2 0 [.func (.func f) #[] c]).2.next,floor:=(cI (cI e 0 [ptrTo w 0]).2 0 [.func (.func f) #[] c]).2.next,opn:=l,bI:=rest++(cI (cI e 0 [ptrTo w 0]).2 0 [.func (.func f) #[] c]).2.bI,wg:=none,pend:=[]}=Z (u,g):=p;rw[r]
 show(if g.deaf=0 then _ else none)=_
 rw[bh H];rfl
theorem IU {m m':Mem}{S:Nat->Prop}{b o n:Nat}(k:Kp m m' S)(h:m.dh b o n=U):m'.dh b o n=U:=by
 unfold Mem.dh at h⊢;rw[k.bI,k.base,k.floor,k.opn];exact h
theorem AZ.form{α:Type}{E:pI α}{sz:Nat}{B:Nat->Prop}{m:Mem}{acc:List α}{sv:ab}(h:AZ E sz B m acc sv):∃a n c,sv=.slice a n c:=by
 obtain⟨a,c,e⟩:=aW.form h.fin;exact⟨a,_,c,e⟩
def sp (d x:Nat):Span:=(d,d+1,Z x)
theorem adu {a:Mem}{w:Nat}{c:ab}{b:Nat}(h:b<a.next):(mU a w c).blk b=a.blk b:=by
 show((a.alloc _).alloc _).blk b=_
 rw[Mem.cC,bH (by show¬a.next+1=b;omega),Mem.cC,bH ai]
def MY (n:Nat):Nat:=max ((n+3) / 4) 8
def uR (n j:Nat):Nat:=min (j*MY n) n
def FW (n j:Nat):Nat:=min (uR n j+MY n) n
theorem ahy (n j:Nat):uR n j<=FW n j/\FW n j<=n:=by unfold FW uR;omega
structure Calm (m:Mem):Prop where
 gd:Gd m
 bI:m.bI=[]
 opn:m.opn=[]
 floor:m.floor=m.base
 wg:m.wg=none
theorem Calm.ext{m m':Mem}{S:Nat->Prop}(h:Calm m)(k:Kp m m' S):Calm m':=⟨h.gd.ext k,k.bI.trans h.bI,k.opn.trans h.opn,by rw[k.floor,k.base];exact h.floor,k.wg.trans h.wg⟩
theorem size_eq {n:Nat}(a:n<90000)(d:Option ab):jk Nat.div .i64 (cf (bU n 4) 1) 4 d=Z (I (((n+3) / 4:Nat):Int)):=by
 have e:cf (bU n 4) 1=((n+3:Nat):Int):=by
  rw[qy ⟨ai,ai⟩,yK ⟨ai,ai⟩];omega
 rw[e]
 show(match Nat.blt (n+3) (hZ .i64)with |true=>Z (ab.int .i64 (.ofNat (Nat.div (n+3) (Nat.succ 3))))|false=>d)=_
 have :Nat.blt (n+3) (hZ .i64)=U:=Nat.ble_eq_true_of_le (by show n+3+1<=9223372036854775808;omega);rw[this];rfl
theorem cE.append{α:Type}{Q:α->ab->Prop}:∀{l b:List α}{cs a:List ab},cE Q l cs->cE Q b a->cE Q (l++b) (cs++a)
 | [],b,cs,a,h,c=>by have h:cs=[]:=h;rw[h];exact c
 |x::l,b,cs,a,⟨v,rest,e,d,h⟩,c=>⟨v,rest++a,by rw[e,List.append_assoc],d,cE.append h c⟩
theorem Calm.own{m:Mem}(h:Calm m){b:Nat}(a:m.base<=b):Own m b:=by
 unfold Own Mem.fL;rw[h.bI,h.floor]
 show(U&&decide (m.base<=b)&&(decide (m.base<=b)|| _))=U
 rw[Cb a];rfl
theorem art {K:fE}(e:B9 K){M:Mem}{w:Nat}(a:M.wg=Z w)(c:M.deaf=0)(b:M.opn=[])(d:M.base<=M.next):Ev K 140 [vP w 0] M (.tuple #[]) (Eo M):=by
 refine⟨1,λA n _ f=>?_⟩;obtain⟨n,rfl⟩:∃k,n=k+1:=⟨n-1,ai⟩;rw[e.wait];unfold Hn;rw[a]
 show(if w=w/\M.deaf=0/\M.opn=[]/\Nat.ble M.base M.next=U then _ else none)=_
 rw[bh ⟨rfl,c,b,Nat.ble_eq_true_of_le d⟩];rfl
section
variable {K:fE}{m:Mem}
theorem ao0 (i b a c n cc:Nat)(sv d rv:ab)(e:Int):Path 253 [sv,I i,vP b 0,vP a 0]
 [.mem (aI b 0) d,
  .mem (aI a 0) (vL c 0 n cc),
  .idx i n i,
  fQ,
  .call 111 [sv,d,vP c (0+i*6)] (.tuple #[rv,I e])]
 (.tuple #[rv,I e]):=lF
theorem alv (d:Nat)(fH:Nat):Path 201 [vP d 0,.nilIface]
 [jF [Z .nilIface] fH,
  .mem (aI fH 0) .nilIface,
  yp]
 (I 0):=lF
theorem akL (d b a c i:Nat)(e:Option Addr):aY 149 [3] 0 99 [1,2,24,25,26] [vP d 0,vP b 0,.slice e a c,I a,I i]
 [bu (dx i a) O]
 (.exit 0) [1,2] [vP d 0,vP b 0]:=cT
theorem akK (d b n cc:Nat)(a:Option Addr)(w c rv:ab)(e:Int):cV 149 4 99 [1,2] [vP d 0,vP b 0]
 [.mem (aI b 1) w,
  .call 201 [vP d 0,w] (I 0),
  jT,
  .mem (aI d 8) (.slice a n cc),
  bu (ji n 1000) O,
  .mem (aI b 2) c,
  .call 202 [vP d 0,c] (.tuple #[rv,I e])]
 .ret [4,5] [rv,I e]:=cT
theorem Wo:jJ 149 2 [4,5]=U:=aM
theorem G9:(dq (bX 149)).length<=99:=af aM
theorem I2:jY (bX 149) 3=Z (0,(cj 149 [3])):=aM
theorem IN:jz 149 [3]:=aM
theorem I7:mm (fp 149) (bX 149) (cj 149 [3]) 3 0=U:=aM
theorem anx {d:Nat}(g:Gd m):∃b,Ev K 201 [vP d 0,.nilIface] m (I 0) b/\Kp m b eK:=by
 obtain⟨a,f,c,k1,_⟩:=bz g [.nilIface];have e:aI m.next 0 a=Z (.nilIface,a):=aO c rfl;exact⟨a,bg (alv d _) (.mem f<|.mem e<|.cond rfl .nil),k1⟩
def YG:List ab:=[.slice none 0 0,I 0,.slice none 0 0,I 0,.slice none 0 0,I 0,.slice none 0 0,I 0,.slice none 0 0,.slice none 0 0,I 0,.slice none 0 0,I 0,.slice none 0 0,I 0,.slice none 0 0,I 0,.slice none 0 0]
end
structure aeP (m:Mem)(b:Nat)(l:List (ByteArray×Nat)):Prop where
 lt:b<m.next
 kind:(m.blk b).kind=2
 es:(m.blk b).es.toList.map (λe=>(e.key,e.val))=l.map λx=>(.string x.1,vP x.2 0)
 Dh:aP m.bI b=O
 home:m.home<=b
def anO (m:Mem)(v:ab)(l:List (ByteArray×Nat)):Prop:=(v=.map none/\l=[])\/∃b,v=.map (Z b)/\aeP m b l
def Me (s:ByteArray):List (ByteArray×Nat)->Option Nat
 | []=>none
 |x::l=>if s=x.1 then Z x.2 else Me s l
def aoJ:Option Nat->ab
 |none=> .pointer none
 |some p=>vP p 0
theorem Dp:∀{es:List MapEntry}{l:List (ByteArray×Nat)},es.map (λe=>(e.key,e.val))=l.map (λx=>(.string x.1,vP x.2 0))->strKeys es=U
 | [],l,_=>rfl
 |e::es,[],h=>by simp at h
 |e::es,x::l,h=>by
  simp only[List.map_cons,List.cons.injEq,ay]at h;unfold strKeys;rw[h.1.1,Dp h.2];rfl
theorem aiX (a b:ByteArray):(a==b)=decide (a=b):=by rw[Bool.eq_iff_iff,bytes_beq,iU]
theorem ES (s:ByteArray):∀{es:List MapEntry}{l:List (ByteArray×Nat)} (i:Nat),es.map (λe=>(e.key,e.val))=l.map (λx=>(.string x.1,vP x.2 0))->(lV s es i).map (·.2)=(Me s l).map λp=>vP p 0
 | [],[],i,_=>rfl
 | [],x::l,_,h=>by simp at h
 |e::es,[],_,h=>by simp at h
 |e::es,x::l,i,h=>by
  simp only[List.map_cons,List.cons.injEq,ay]at h;unfold lV Me;rw[h.1.1]
  by_cases a:s=x.1
  .simp only[aiX,Cb a,if_true,bh a,dk];rw[h.1.2]
  .simp only[aiX,yz a,bH a];exact ES s (i+1) h.2
theorem adE:ae.underlying 67=Z (.map 9 147):=aM
theorem PA:iT ae 147=Z (.pointer none):=aM
theorem acm {m:Mem}{v:ab}{l:List (ByteArray×Nat)}(h:anO m v l)(s:ByteArray):wo ae 67 v (.string s) O m=Z (aoJ (Me s l),m):=by
 unfold wo jA;rcases h with⟨rfl,rfl⟩|⟨b,rfl,a⟩
 .simp only[adE,ZO,PA];rfl
 .simp only[adE,ZO,PA];have e:((m.blk b).kind==2&&m.bQ b)=U:=by
   unfold Mem.bQ;rw[a.kind,a.Dh];simp[a.home]
  rw[bh e];simp only[Dp a.es,if_true];have :=ES s 0 a.es;rcases d:lV s (m.blk b).es.toList 0 with _|⟨i,u⟩<;>rw[d]at this<;>rcases c:Me s l with _|p<;>rw[c]at this<;>simp at this
  .rfl
  .subst this;rfl
structure Tb where
 p:Nat
 fe:List FI
theorem aC.done{K:fE}{nt:Nat}{c:Code}{i:Nat}{st:Ss}(h:(dq c).length<=i):aC K nt c i st .normal st:=by
 unfold aC;rw[List.drop_of_length_le h];exact⟨0,λ_ _ _ _=>⟨yO,rfl,rfl⟩⟩
noncomputable def kT(nt:Nat)(c b:Code)(i id:Nat):Bool:=codeOk nt b&&(comp ae nt 1000 (.block id b)).isSome
theorem aC.uz{K:fE}{nt:Nat}{c b:Code}{i id:Nat}{st jf d:Ss}{e e':Exit}(f:jD c i=Z (id,b))(a:kT nt c b i id=U)(h:aC K nt b 0 st e' jf)(g:e'=.normal\/e'=.exit id)(k:aC K nt c (i+1) jf e d):aC K nt c i st e d:=by
 unfold kT at a;rw[ag]at a;exact aC.block f h g (fB a.1).1 (fB a.1).2.1 a.2 k
theorem aC.AS{K:fE}{nt:Nat}{c b:Code}{i id:Nat}{st jf:Ss}(e:jD c i=Z (id,b))(a:kT nt c b i id=U)(h:aC K nt b 0 st .ret jf)(d:(qO nt ((dq c).drop (i+1))).isSome=U):aC K nt c i st .ret jf:=by
 unfold kT at a;rw[ag]at a;exact aC.TB e h (fB a.1).1 (fB a.1).2.1 a.2 d
section
variable {K:fE}{m:Mem}
theorem ao8 (p n cc:Nat)(rv:ab)(fH:Nat):Path 150 [vL p 0 n cc]
 [jT,
  .mem (bW ae 29 0 []) (vL fH 0 0 0),
  .mem (cJ ae #[29,29] (vL fH 0 0 0) (vL p 0 n cc)) rv]
 rv:=lF
theorem ad2:jJ 152 5 []=U:=aM
theorem Qp:jY (bX 152) 2=Z (0,(cj 152 [2])):=aM
theorem tZ:jz 152 [2]:=aM
theorem Qq:mm (fp 152) (bX 152) (cj 152 [2]) 2 0=U:=aM
theorem ad1:jJ 205 4 []=U:=aM
theorem CJ:jz 205 [1]:=aM
theorem akY (d a b i:Nat)(c:Option Addr)(rv:ab):aY 115 [6] 0 99 [1,8,26,27,28] [vP d 0,rv,.slice c a b,I a,I i]
 [bu (dx i a) O]
 (.exit 0) [8] [rv]:=cT
theorem akX (rv:ab):cV 115 7 99 [8] [rv]
 []
 .ret [4,5] [rv,I 0]:=cT
theorem alG:jJ 115 2 [4,5]=U:=aM
theorem Sr:(dq (bX 115)).length<=99:=af aM
theorem Qf:jz 115 [6]:=aM
theorem N9:(dq (bX 205)).length<=2:=af aM
theorem ah2 {m:Mem}:bW ae 29 0 [] m=Z (vL m.next 0 0 0,m.alloc {kind:=1,sz:=1,cs:=[]}):=aM
end
abbrev El:=ab×List V
instance:Inhabited El:=⟨(undef,[])⟩
def cS (x y:El):Bool:=dx (cB x.2 y.2) 0
structure Sv (B:Nat->Prop)(p n:Nat)(rest:List ab)(m:Mem)(d:Array El):Prop where
 gd:Gd m
 ob:Obj m p 1 (d.toList.map (·.1)++rest)
 ow:Own m p
 sz:d.size=n
 nb:¬B p
 el:∀x∈d.toList,bD.R B x.2 m x.1/\x.2.length<99999
def rp (k:Nat)(v:ab)(b:Bool)(L:List rB):List rB:=match k with
 |0=>L
 |k+1=> .cond v b::rp k v b L
theorem Ch.rp{K:fE}{m m':Mem}{v:ab}{b:Bool}{L:List rB}(h:v=.bool b)(c:Ch K m L m'):∀{k:Nat},Ch K m (AM.rp k v b L) m'
 |0=>c
 |k+1=> .cond h (Ch.rp h c)
theorem aC.Pk{K:fE}{nt:Nat}{c b:Code}{i id j:Nat}{st jf:Ss}(d:jD c i=Z (id,b))(a:kT nt c b i id=U)(h:aC K nt b 0 st (.exit j) jf)(k:Nat.beq j id=O)(g:(qO nt ((dq c).drop (i+1))).isSome=U):aC K nt c i st (.exit j) jf:=by
 unfold kT at a;rw[ag]at a;unfold jD at d
 split at d
 .rename_i f o l;cases d;obtain⟨n,e⟩:=List.getElem?_eq_some_iff.1 l;have m:(dq c).drop i=[.block id b]++(dq c).drop (i+1):=by rw[List.drop_eq_getElem_cons n,e];rfl
  unfold aC;rw[m];exact xq.first (xq.single (xr.block (h.whole (fB a.1).1 (fB a.1).2.1) (by simp only[k];rfl) (fB a.1).1 a.2)) iq g
 .cases d
theorem bT {b:Bool}(h:b=U):(.bool b:ab)=.bool U:=congrArg _ h
theorem bF {b:Bool}(h:b=O):(.bool b:ab)=.bool O:=congrArg _ h
theorem lJ {i j:Nat}(h:j<=i)(hi:i<2^60:=by omega):cf i j=((i-j:Nat):Int):=by rw[yK ⟨ai,ai⟩];omega
theorem oU {i j:Nat}(h:i+j<2^60:=by omega):bU i j=((i+j:Nat):Int):=by rw[qy ⟨ai,ai⟩];omega
theorem Lw {i j:Nat}(h:i*j<2^60:=by omega):ly i j=((i*j:Nat):Int):=by
 have e:((i*j:Nat):Int)=(i:Int)*(j:Int):=Int.natCast_mul i j;rw[IT (by rw[<-e];exact⟨ai,ai⟩),e]
theorem sO {k:Nat}(hi:k+1<2^60:=by omega):cf (k+1:Nat) 1=(k:Int):=lJ (i:=k+1) (j:=1) ai ai
theorem eQ {k:Nat}(hi:k+1<2^60:=by omega):bU k 1=((k+1:Nat):Int):=oU (i:=k) (j:=1) ai
theorem nX {i j:Nat}:dx i j=decide (i<j):=by rw[fW];exact decide_eq_decide.2 ai
theorem od {i j:Nat}:ji i j=decide (j<i):=by rw[OU];exact decide_eq_decide.2 ai
theorem gK {i j:Nat}:gu i j=decide (i<=j):=by rw[agD];exact decide_eq_decide.2 ai
theorem zR {i j:Nat}:th i j=decide (j<=i):=by rw[Js];exact decide_eq_decide.2 ai
theorem dT {p:Prop}[Decidable p]{b:Bool}(h:b=decide p)(a:p:=by omega):(.bool b:ab)=.bool U:=by rw[h,Cb a]
theorem dF {p:Prop}[Decidable p]{b:Bool}(h:b=decide p)(a:¬p:=by omega):(.bool b:ab)=.bool O:=by rw[h,yz a]
section
variable {K:fE}{B:Nat->Prop}{p n:Nat}{rest:List ab}{m m':Mem}{d:Array El}
theorem bD.one{x:List V}{v:ab}(h:bD.R B x m v):nT v=U:=by
 obtain⟨b,c,rfl,_⟩:=h;rfl
theorem Sv.ext(h:Sv B p n rest m d)(k:Kp m m' eK):Sv B p n rest m' d:=
 ⟨h.gd.ext k,h.ob.a9 k,h.ow.ext k,h.sz,h.nb,λx a=>⟨bD.ext (h.el x a).1 k λ_ _ h=>h,(h.el x a).2⟩⟩
theorem Sv.mem(h:Sv B p n rest m d){i:Nat}(hi:i<n):d[i]!∈d.toList:=by
 have a:=h.sz;rw[getElem!_pos d i ai];exact Array.getElem_mem_toList _
theorem Sv.ld(h:Sv B p n rest m d){i:Nat}(hi:i<n:=by omega):aI p (0+i*1) m=Z (d[i]!.1,m):=by
 have a:=h.sz;refine aO h.ob ?_;rw[Nat.zero_add,Nat.mul_one,List.getElem?_append_left (by simp;omega),List.getElem?_map,getElem!_pos d i ai];simp;exact⟨_,Array.getElem?_eq_getElem ai⟩
theorem Sv.cmp(h:Sv B p n rest m d){i j:Nat}(hi:i<n:=by omega)(g:j<n:=by omega):
  ∃c m',Ev K 117 [d[i]!.1,d[j]!.1] m (I c) m'/\Kp m m' eK/\Sv B p n rest m' d/\dx c 0=cS d[i]! d[j]!:=by
 obtain⟨⟨w,u,o,_,b,q⟩,f⟩:=h.el _ (h.mem hi);obtain⟨⟨v,t,l,_,a,r⟩,s⟩:=h.el _ (h.mem g);rw[o,l];obtain⟨m',e,k⟩:=arx (K:=K) h.gd (b.sl (jM _) q) (a.sl (jM _) r) f;exact⟨_,m',e,k,h.ext k,rfl⟩
theorem Sv.st(h:Sv B p n rest m d){i:Nat}(hi:i<n){x:El}(c:x∈d.toList):
  ∃m',du p (0+i*1) x.1 m=Z (undef,m')/\Kp m m' (λy=>y=p)/\Sv B p n rest m' (d.setIfInBounds i x):=by
 have j:=h.sz;rw[Nat.zero_add,Nat.mul_one];obtain⟨m',e,o,k⟩:=gj x.1 h.ob (h.ow.may i 1) (by simp;omega) (bD.one (h.el x c).1);refine⟨m',e,k,h.gd.ext k,?_,h.ow.ext k,by simpa using j,h.nb,λy a=>?_⟩
 .rw[List.set_append_left _ _ (by simp;omega)]at o;simpa[List.map_set]using o
 .have f:y∈d.toList:=by
   rw[Array.toList_setIfInBounds]at a;rcases List.mem_or_eq_of_mem_set a with a|rfl
   .exact a
   .exact c
  exact⟨bD.ext (h.el y f).1 k λb g e=>h.nb (e▸g),(h.el y f).2⟩
theorem Sv.swap(h:Sv B p n rest m d){i j:Nat}(hi:i<n:=by omega)(l:j<n:=by omega):
  ∃f c,du p (0+i*1) d[j]!.1 m=Z (undef,f)/\Gd f/\du p (0+j*1) d[i]!.1 f=Z (undef,c)/\Kp m c (λy=>y=p)/\Sv B p n rest c (Sort.swp d i j):=by
 obtain⟨f,v,k1,g⟩:=h.st hi (h.mem l);have w:d[i]!∈(d.setIfInBounds i d[j]!).toList\/i=j\/True:=.inr (.inr trivial);have t:=h.sz;obtain⟨c,u,o,r⟩:=gj d[i]!.1 g.ob (g.ow.may j 1) (by simp;omega) (bD.one (h.el _ (h.mem hi)).1);rw[Nat.zero_add,Nat.mul_one]at*;have k:=k1.trans r λ_ _ h=>h
 refine⟨f,c,v,g.gd,by rw[Nat.zero_add,Nat.mul_one];exact u,k,h.gd.ext k,?_,h.ow.ext k,by simp[Sort.swp,t],h.nb,λy a=>?_⟩
 .rw[List.set_append_left _ _ (by simp;omega)]at o;unfold Sort.swp;rw[Array.toList_setIfInBounds,List.map_set];exact o
 .have q:y∈d.toList:=by
   unfold Sort.swp at a;rw[Array.toList_setIfInBounds,Array.toList_setIfInBounds]at a;rcases List.mem_or_eq_of_mem_set a with a|rfl
   .rcases List.mem_or_eq_of_mem_set a with a|rfl
    .exact a
    .exact h.mem l
   .exact h.mem hi
  exact⟨bD.ext (h.el y q).1 k λb s e=>h.nb (e▸s),(h.el y q).2⟩
end
theorem aj7 (p n cc a b i k:Nat)(x y:ab)(c:Int):aY 205 [1,2,1] 0 99 [0,1,2,3,8,9] [vL p 0 n cc,I a,I b,.func (.func 117) #[] #[],I i,I (k+1:Nat)]
 ((rp 4 (.bool (ji (k+1:Nat) a)) U (.idx (k+1:Nat) n (k+1)::bu (ji (k+1:Nat) a) U::.mem (aI p (0+(k+1)*1)) x::(rp 4 (.bool (ji (k+1:Nat) a)) U ([.idx (cf (k+1:Nat) 1) n k,
  bu (ji (k+1:Nat) a) U,
  .mem (aI p (0+k*1)) y,
  fQ,
  bu (ji (k+1:Nat) a) U,
  .bZ (.func (.func 117) #[] #[]) [x,y] (I c),
  bu (ji (k+1:Nat) a) U,
  bu (ji (k+1:Nat) a) U,
  bu (dx c 0) U,
  .idx (cf (k+1:Nat) 1) n k,
  .mem (aI p (0+k*1)) y,
  .idx (k+1:Nat) n (k+1),
  .mem (aI p (0+(k+1)*1)) x,
  .idx (k+1:Nat) n (k+1),
  fQ,
  .mem (du p (0+(k+1)*1) y) undef,
  .idx (cf (k+1:Nat) 1) n k,
  fQ,
  .mem (du p (0+k*1) x) undef])))))
 .normal [0,1,2,3,8,9] [vL p 0 n cc,I a,I b,.func (.func 117) #[] #[],I i,I (cf (k+1:Nat) 1)]:=cT
theorem aj8 (p n cc a b i k:Nat)(x y:ab)(c:Int):aY 205 [1,2,1] 0 99 [0,1,2,3,8,9] [vL p 0 n cc,I a,I b,.func (.func 117) #[] #[],I i,I (k+1:Nat)]
 ((rp 4 (.bool (ji (k+1:Nat) a)) U (.idx (k+1:Nat) n (k+1)::bu (ji (k+1:Nat) a) U::.mem (aI p (0+(k+1)*1)) x::(rp 4 (.bool (ji (k+1:Nat) a)) U ([.idx (cf (k+1:Nat) 1) n k,
  bu (ji (k+1:Nat) a) U,
  .mem (aI p (0+k*1)) y,
  fQ,
  bu (ji (k+1:Nat) a) U,
  .bZ (.func (.func 117) #[] #[]) [x,y] (I c),
  bu (ji (k+1:Nat) a) U,
  bu (ji (k+1:Nat) a) U,
  bu (dx c 0) O])))))
 (.exit 2) [0,1,2,3,8] [vL p 0 n cc,I a,I b,.func (.func 117) #[] #[],I i]:=cT
theorem ake (p n cc a b i k:Nat):aY 205 [1,2,1] 0 99 [0,1,2,3,8,9] [vL p 0 n cc,I a,I b,.func (.func 117) #[] #[],I i,I k]
 ((rp 10 (.bool (ji k a)) O (fQ::(rp 3 (.bool (ji k a)) O ([jT])))))
 (.exit 2) [0,1,2,3,8] [vL p 0 n cc,I a,I b,.func (.func 117) #[] #[],I i]:=cT
theorem akd (p n cc a b i:Nat):aY 205 [1] 0 99 [0,1,2,3,8] [vL p 0 n cc,I a,I b,.func (.func 117) #[] #[],I i]
 [bu (dx i b) O]
 (.exit 0) [] []:=cT
theorem akc (p n cc a b i:Nat):aY 205 [1] 0 2 [0,1,2,3,8] [vL p 0 n cc,I a,I b,.func (.func 117) #[] #[],I i]
 [bu (dx i b) U]
 .normal [0,1,2,3,8] [vL p 0 n cc,I a,I b,.func (.func 117) #[] #[],I i]:=cT
theorem akb (p n cc a b i:Nat):aY 205 [1,2] 0 1 [0,1,2,3,8] [vL p 0 n cc,I a,I b,.func (.func 117) #[] #[],I i]
 []
 .normal [0,1,2,3,8,9] [vL p 0 n cc,I a,I b,.func (.func 117) #[] #[],I i,I i]:=cT
theorem aka (p n cc a b i:Nat):aY 205 [1] 3 99 [0,1,2,3,8] [vL p 0 n cc,I a,I b,.func (.func 117) #[] #[],I i]
 []
 .normal [0,1,2,3,8] [vL p 0 n cc,I a,I b,.func (.func 117) #[] #[],I (bU i 1)]:=cT
theorem aj9 (p n cc a b:Nat):cV 205 0 1 [0,1,2,3] [vL p 0 n cc,I a,I b,.func (.func 117) #[] #[]]
 []
 .normal [0,1,2,3,8] [vL p 0 n cc,I a,I b,.func (.func 117) #[] #[],I (bU a 1)]:=cT
theorem vp:jz 205 [1,2,1]:=aM
theorem TC:jD (cj 205 [1]) 2=Z (1,(cj 205 [1,2])):=aM
theorem TA:kT (fp 205) (cj 205 [1]) (cj 205 [1,2]) 2 1=U:=aM
section
variable {K:fE}{B:Nat->Prop}{p n cc:Nat}{rest:List ab}{m:Mem}{d:Array El}
abbrev fR:ab:=.func (.func 117) #[] #[]
theorem i205 (h:Sv B p n rest m d)(R:n<90000){a b i:Nat}(hi:i<n){tm:Tm}(u:bj [0,1,2,3,8,9] tm=[vL p 0 n cc,I a,I b,fR,I i,I i]):
  ∃w f,uT K (fp 205) (cj 205 [1,2,1]) 100000000000000 ⟨tm,m,[]⟩ (.exit 2) ⟨w,f,[]⟩/\bj [0,1,2,3,8] w=[vL p 0 n cc,I a,I b,fR,I i]/\Kp m f (λy=>y=p)/\Sv B p n rest f (Sort.insInner cS a i d):=by
 obtain⟨e,w,f,T,M,rfl,r⟩:=j7 (K:=K) (nt:=fp 205) (a:=cj 205 [1,2,1])
  (Inv:=λk tm f=>∃g,k<n/\bj [0,1,2,3,8,9] tm=[vL p 0 n cc,I a,I b,fR,I i,I k]/\Kp m f (λy=>y=p)/\Sv B p n rest f g/\Sort.insInner cS a k g=Sort.insInner cS a i d)
  (dm:=λe tm f=>e=.exit 2/\bj [0,1,2,3,8] tm=[vL p 0 n cc,I a,I b,fR,I i]/\Kp m f (λy=>y=p)/\Sv B p n rest f (Sort.insInner cS a i d))
  (by
   rintro k tm H ⟨g,S,u,k1,l,z⟩;have X:=l.gd
   by_cases x:a<k
   .obtain⟨k,rfl⟩:∃j,k=j+1:=⟨k-1,ai⟩;obtain⟨c,G,D,L,t,C⟩:=l.cmp (K:=K) (i:=k+1) (j:=k);have W:=t.gd;have A:=k1.aX L
    by_cases o:cS g[k+1]! g[k]! =U
    .obtain⟨Q,F,P,V,N,J,E⟩:=t.swap (i:=k+1) (j:=k);obtain⟨s,v,q⟩:=aL vp (aj7 p n cc a b i k g[k+1]!.1 g[k]!.1 c) u (.rp (dT od)<|.idx rfl ai<|.cond (dT od)<|.mem l.ld<|.rp (dT od)<|.idx sO ai<|.cond (dT od)<|.mem l.ld<|.mem (aJ fS)<|.cond (dT od)<|.bZ D<|.cond (dT od)<|.cond (dT od)<|.cond (bT (C.trans o))<|.idx sO ai<|.mem t.ld<|.idx rfl ai<|.mem t.ld<|.idx rfl ai<|.mem (aJ fS)<|.mem P<|.idx sO ai<|.mem (aJ fS)<|.mem N<|.nil);rw[sO]at q;refine .inl ⟨k,s,F,ai,v,_,ai,q,A.trans J λ_ _ h=>h,E,?_⟩;rw[<-z,Sort.insInner.eq_2,bh (by simp[o,x])]
    .have o:=Bool.eq_false_iff.2 o;obtain⟨s,v,q⟩:=aL vp (aj8 p n cc a b i k g[k+1]!.1 g[k]!.1 c) u (.rp (dT od)<|.idx rfl ai<|.cond (dT od)<|.mem l.ld<|.rp (dT od)<|.idx sO ai<|.cond (dT od)<|.mem l.ld<|.mem (aJ fS)<|.cond (dT od)<|.bZ D<|.cond (dT od)<|.cond (dT od)<|.cond (bF (C.trans o))<|.nil);refine .inr ⟨_,s,G,iq,v,rfl,q,A,?_⟩;rw[<-z,Sort.insInner.eq_2,bH (by simp[o])];exact t
   .obtain⟨s,v,q⟩:=aL vp (ake p n cc a b i k) u (.rp (dF od)<|.mem (aJ fS)<|.rp (dF od)<|.cond rfl<|.nil);refine .inr ⟨_,s,H,iq,v,rfl,q,k1,?_⟩;rw[<-z];cases k with
    |zero=>exact l
    |succ k=>rw[Sort.insInner.eq_2,bH (by simp;omega)];exact l)
  (n:=i) (k:=100000000000000) ⟨d,hi,u,.refl _ _,h,rfl⟩ ai
 exact⟨w,f,M,r⟩
theorem arn (h:Sv B p n rest m d)(G:n<90000){a b:Nat}(T:b<=n)(V:a<90000):
  ∃m',Ev K 205 [vL p 0 n cc,I a,I b,fR] m (.tuple #[]) m'/\Kp m m' (λy=>y=p)/\Sv B p n rest m' (Sort.insertionSort cS d a b):=by
 obtain⟨C,x,t⟩:=aU (K:=K) (m:=m) (m':=m) (tm:=entry [vL p 0 n cc,I a,I b,fR]) (aj9 p n cc a b) rfl .nil;rw[eQ]at t;obtain⟨e,Q,m',S,F,rfl,r⟩:=eN (K:=K) (nt:=fp 205) (a:=cj 205 [1]) (b-(a+1))
  (Inv:=λj tm m'=>∃f,bj [0,1,2,3,8] tm=[vL p 0 n cc,I a,I b,fR,I (a+1+j:Nat)]/\Kp m m' (λy=>y=p)/\Sv B p n rest m' f/\Sort.insOuter cS a b (a+1+j) f=Sort.insertionSort cS d a b)
  (dm:=λe tm m'=>e=.exit 0/\Kp m m' (λy=>y=p)/\Sv B p n rest m' (Sort.insertionSort cS d a b))
  (by
   rintro j tm c R ⟨f,l,k1,g,o⟩
   left
   obtain⟨P,w,L⟩:=aU (K:=K) (m:=c) (m':=c) (akc p n cc a b (a+1+j)) l (.cond (dT nX)<|.nil);obtain⟨N,v,J⟩:=aU (K:=K) (m:=c) (m':=c) (akb p n cc a b (a+1+j)) L .nil;obtain⟨M,k,q,H,E,D⟩:=i205 (K:=K) g G (i:=a+1+j) ai J;obtain⟨z,u,s⟩:=aU (K:=K) (m:=k) (m':=k) (aka p n cc a b (a+1+j)) H .nil;rw[eQ]at s;refine⟨z,k,(aC.cut w (aC.uz TC TA (aC.cut v (aC.fC q (aC.done (af aM)))) (.inl rfl) (aC.last u (fB CJ).2.2))).code CJ,_,s,k1.trans E λ_ _ h=>h,D,?_⟩;rw[<-o]
   conv=>rhs;rw[Sort.insOuter]
   rw[bh ai];rfl)
  (by
   rintro tm c ⟨f,l,k1,g,o⟩;obtain⟨A,q,W⟩:=aL (K:=K) (m:=c) (m':=c) CJ (akd p n cc a b (a+1+(b-(a+1)))) l (.cond (dF nX)<|.nil);refine⟨_,A,c,iq,q,rfl,k1,?_⟩;rw[<-o,Sort.insOuter,bH ai];exact g)
  (tm:=C) (m:=m) ⟨d,t,.refl _ _,h,rfl⟩ ai
 exact⟨m',dE (vs:=[]) ad1 (aC.cut x (aC.fC F (aC.done (af aM)))) (.inl rfl) rfl,r⟩
end
structure Cn (B:Nat->Prop)(p:Nat)(m:Mem)(s w:Nat):Prop where
 ob:Obj m s 0 [I (w:Int)]
 ow:Own m s
 ne:s≠p
 nb:¬B s
theorem ale (p n cc a b s w:Nat)(x y:ab)(c:Int):Path 274 [vL p 0 n cc,I a,I b,vP s 0,fR]
 [.idx b n b,
  .mem (aI p (0+b*1)) y,
  .idx a n a,
  .mem (aI p (0+a*1)) x,
  fQ,
  .bZ fR [y,x] (I c),
  bu (dx c 0) U,
  .mem (aI s 0) (I w),
  .mem (du s 0 (I (bU w 1))) undef]
 (.tuple #[I b,I a]):=lF
theorem ald (p n cc a b s:Nat)(x y:ab)(c:Int):Path 274 [vL p 0 n cc,I a,I b,vP s 0,fR]
 [.idx b n b,
  .mem (aI p (0+b*1)) y,
  .idx a n a,
  .mem (aI p (0+a*1)) x,
  fQ,
  .bZ fR [y,x] (I c),
  bu (dx c 0) O]
 (.tuple #[I a,I b]):=lF
theorem aoW (p n cc a b c s g f e h i d:Nat):Path 258 [vL p 0 n cc,I a,I b,I c,vP s 0,fR]
 [.call 274 [vL p 0 n cc,I a,I b,vP s 0,fR] (.tuple #[I g,I f]),
  .call 274 [vL p 0 n cc,I f,I c,vP s 0,fR] (.tuple #[I e,I h]),
  .call 274 [vL p 0 n cc,I g,I e,vP s 0,fR] (.tuple #[I i,I d])]
 (I d):=lF
theorem aoX (p n cc a s r:Nat):Path 257 [vL p 0 n cc,I a,vP s 0,fR]
 [.call 258 [vL p 0 n cc,I (cf a 1),I a,I (bU a 1),vP s 0,fR] (I r)]
 (I r):=lF
theorem ajN (p n cc a b:Nat):cV 209 0 2 [0,1,2,3] [vL p 0 n cc,I a,I b,fR]
 []
 .normal [0,8,9] [vL p 0 n cc,I a,I (cf b 1)]:=cT
theorem ajL (p n cc i j:Nat)(x y:ab):aY 209 [2] 0 99 [0,8,9] [vL p 0 n cc,I i,I j]
 [bu (dx i j) U,
  .idx j n j,
  .mem (aI p (0+j*1)) y,
  .idx i n i,
  .mem (aI p (0+i*1)) x,
  .idx i n i,
  fQ,
  .mem (du p (0+i*1) y) undef,
  .idx j n j,
  fQ,
  .mem (du p (0+j*1) x) undef]
 .normal [0,8,9] [vL p 0 n cc,I (bU i 1),I (cf j 1)]:=cT
theorem ajM (p n cc i j:Nat):aY 209 [2] 0 99 [0,8,9] [vL p 0 n cc,I i,I j]
 [bu (dx i j) O]
 (.exit 0) [] []:=cT
theorem alD:jJ 209 4 []=U:=aM
theorem Qb:jz 209 [2]:=aM
theorem ajU (p n cc a b q:Nat)(fH:Nat):cV 208 0 6 [0,1,2,3] [vL p 0 n cc,I a,I b,fR]
 [jF [Z (I 0)] fH,
  .val (jk Nat.div .i64 (cf b a) 4 (j5 ae .quo 3 O U (I (cf b a)) (I 4))) (I q),
  .val (jk Nat.div .i64 (cf b a) 4 (j5 ae .quo 3 O U (I (cf b a)) (I 4))) (I q),
  .val (jk Nat.div .i64 (cf b a) 4 (j5 ae .quo 3 O U (I (cf b a)) (I 4))) (I q)]
 .normal [0,3,10,11,12,13,14] [vL p 0 n cc,fR,I (cf b a),vP fH 0,I (bU a (ly q 1)),I (bU a (ly q 2)),I (bU a (ly q 3))]:=cT
theorem ajT (p n cc l s i j k:Nat):cV 208 6 8 [0,3,10,11,12,13,14] [vL p 0 n cc,fR,I l,vP s 0,I i,I j,I k]
 [bu (th l 8) O]
 .normal [11,13] [vP s 0,I j]:=cT
theorem ajS (p n cc l s i j k a:Nat):cV 208 6 8 [0,3,10,11,12,13,14] [vL p 0 n cc,fR,I l,vP s 0,I i,I j,I k]
 [bu (th l 8) U,
  bu (th l 50) O,
  .call 258 [vL p 0 n cc,I i,I j,I k,vP s 0,fR] (I a)]
 .normal [11,13] [vP s 0,I a]:=cT
theorem ajR (p n cc l s i j k c b k1 a:Nat):cV 208 6 8 [0,3,10,11,12,13,14] [vL p 0 n cc,fR,I l,vP s 0,I i,I j,I k]
 [bu (th l 8) U,
  bu (th l 50) U,
  .call 257 [vL p 0 n cc,I i,vP s 0,fR] (I c),
  .call 257 [vL p 0 n cc,I j,vP s 0,fR] (I b),
  .call 257 [vL p 0 n cc,I k,vP s 0,fR] (I k1),
  .call 258 [vL p 0 n cc,I c,I b,I k1,vP s 0,fR] (I a)]
 .normal [11,13] [vP s 0,I a]:=cT
theorem ajP (s j w:Nat):cV 208 8 99 [11,13] [vP s 0,I j]
 [.mem (aI s 0) (I w),
  bu (rk w 0) U]
 .ret [8,9] [I j,I 1]:=cT
theorem ajQ (s j w:Nat):cV 208 8 99 [11,13] [vP s 0,I j]
 [.mem (aI s 0) (I w),
  bu (rk w 0) O,
  bu (rk w 12) U]
 .ret [8,9] [I j,I 2]:=cT
theorem ajO (s j w:Nat):cV 208 8 99 [11,13] [vP s 0,I j]
 [.mem (aI s 0) (I w),
  bu (rk w 0) O,
  bu (rk w 12) O]
 .ret [8,9] [I j,I 0]:=cT
theorem Wj:jJ 208 4 [8,9]=U:=aM
theorem Ag:(dq (bX 208)).length<=99:=af aM
section
variable {K:fE}{B:Nat->Prop}{p n cc:Nat}{rest:List ab}{m m':Mem}{d:Array El}
theorem Sv.ahz(h:Sv B p n rest m d){s:Nat}(k:Kp m m' (λy=>y=s))(c:s≠p)(f:¬B s):Sv B p n rest m' d:=
 ⟨h.gd.ext k,h.ob.ext k λe=>c e.symm,h.ow.ext k,h.sz,h.nb,λx a=>⟨bD.ext (h.el x a).1 k λb h e=>f (e▸h),(h.el x a).2⟩⟩
theorem Cn.ext{s w:Nat}(h:Cn B p m s w)(k:Kp m m' eK):Cn B p m' s w:=⟨h.ob.a9 k,h.ow.ext k,h.ne,h.nb⟩
theorem ahV (h:Sv B p n rest m d){a b s w:Nat}(q:Cn B p m s w)(A:a<n)(z:b<n)(D:w<90000):
  ∃m',Ev K 274 [vL p 0 n cc,I a,I b,vP s 0,fR] m (.tuple #[I ((Sort.order2 cS d a b w).1:Int),I ((Sort.order2 cS d a b w).2.1:Int)]) m'/\Kp m m' (λy=>y=s)/\Sv B p n rest m' d/\Cn B p m' s (Sort.order2 cS d a b w).2.2:=by
 have g:=h.gd;obtain⟨c,x,r,l,j,o⟩:=h.cmp (K:=K) z A;have E:=j.gd;have i:=q.ext l;have t:=i.ob
 by_cases f:cS d[b]! d[a]! =U
 .obtain⟨v,C,u,k⟩:=gj (I (w+1:Nat)) i.ob (i.ow.may 0 1) dA;have e:Sort.order2 cS d a b w=(b,a,w+1):=bh f;rw[e];refine⟨v,bg (ale p n cc a b s w d[a]!.1 d[b]!.1 c) (.idx rfl ai<|.mem h.ld<|.idx rfl ai<|.mem h.ld<|.mem (aJ fS)<|.bZ r<|.cond (bT (o.trans f))<|.mem (aO fS rfl)<|.mem (by rw[eQ];exact C)<|.nil),l.sC.trans k λ_ _ h=>h,j.ahz k q.ne q.nb,u,i.ow.ext k,q.ne,q.nb⟩
 .have f:=Bool.eq_false_iff.2 f;have e:Sort.order2 cS d a b w=(a,b,w):=bH (by simp[f]);rw[e];exact⟨x,bg (ald p n cc a b s d[a]!.1 d[b]!.1 c) (.idx rfl ai<|.mem h.ld<|.idx rfl ai<|.mem h.ld<|.mem (aJ fS)<|.bZ r<|.cond (bF (o.trans f))<|.nil),l.sC,j,i⟩
theorem Ae {a b w:Nat}(e:a<n)(c:b<n):(Sort.order2 cS d a b w).1<n/\(Sort.order2 cS d a b w).2.1<n/\(Sort.order2 cS d a b w).2.2<=w+1:=by
 unfold Sort.order2;split<;>exact⟨fS,fS,dA⟩
theorem ahW (h:Sv B p n rest m d){a b c s w:Nat}(q:Cn B p m s w)(g:a<n)(f:b<n)(e:c<n)(L:w<80000):
  ∃m',Ev K 258 [vL p 0 n cc,I a,I b,I c,vP s 0,fR] m (I ((Sort.median cS d a b c w).1:Int)) m'/\Kp m m' (λy=>y=s)/\Sv B p n rest m' d/\Cn B p m' s (Sort.median cS d a b c w).2/\(Sort.median cS d a b c w).1<n/\(Sort.median cS d a b c w).2<=w+3:=by
 obtain⟨J,E,k1,r,v⟩:=ahV (K:=K) (cc:=cc) h q g f ai;obtain⟨k,j,Q⟩:=Ae (d:=d) (w:=w) g f;obtain⟨H,D,A,o,u⟩:=ahV (K:=K) (cc:=cc) r v j e ai;obtain⟨i,P,N⟩:=Ae (d:=d) (w:=(Sort.order2 cS d a b w).2.2) j e;obtain⟨x,C,z,l,t⟩:=ahV (K:=K) (cc:=cc) o u k i ai;obtain⟨M,G,F⟩:=Ae (d:=d) (w:=(Sort.order2 cS d (Sort.order2 cS d a b w).2.1 c (Sort.order2 cS d a b w).2.2).2.2) k i;exact⟨x,bg (aoW ..) (.call E<|.call D<|.call C .nil),(k1.trans A λ_ _ h=>h).trans z λ_ _ h=>h,l,t,G,bV F ai⟩
theorem ahX (h:Sv B p n rest m d){a s w:Nat}(q:Cn B p m s w)(o:0<a)(i:a+1<n)(l:n<90000)(g:w<80000):
  ∃m',Ev K 257 [vL p 0 n cc,I a,vP s 0,fR] m (I ((Sort.medianAdjacent cS d a w).1:Int)) m'/\Kp m m' (λy=>y=s)/\Sv B p n rest m' d/\Cn B p m' s (Sort.medianAdjacent cS d a w).2/\(Sort.medianAdjacent cS d a w).1<n/\(Sort.medianAdjacent cS d a w).2<=w+3:=by
 obtain⟨f,k,r⟩:=ahW (K:=K) (cc:=cc) h q (a:=a-1) (b:=a) (c:=a+1) ai ai i g;refine⟨f,bg (aoX p n cc a s _) (.call ?_ .nil),r⟩;have e:cf a 1=((a-1:Nat):Int):=lJ (j:=1) ai;rw[e,eQ];exact k
theorem ari (h:Sv B p n rest m d)(J:n<90000){a b:Nat}(P:b<=n)(R:1<=b)(Q:a<90000):
  ∃m',Ev K 209 [vL p 0 n cc,I a,I b,fR] m (.tuple #[]) m'/\Kp m m' (λy=>y=p)/\Sv B p n rest m' (Sort.reverseRange d a b):=by
 obtain⟨x,w,v⟩:=aU (K:=K) (m:=m) (m':=m) (tm:=entry [vL p 0 n cc,I a,I b,fR]) (ajN p n cc a b) rfl .nil;have e:cf b 1=((b-1:Nat):Int):=lJ (j:=1) ai;rw[e]at v;obtain⟨e,G,m',N,D,rfl,r⟩:=j7 (K:=K) (nt:=fp 209) (a:=cj 209 [2])
  (Inv:=λk tm m'=>∃(g:Array El) (i:Nat),i<=90000/\k<n/\bj [0,8,9] tm=[vL p 0 n cc,I i,I k]/\Kp m m' (λy=>y=p)/\Sv B p n rest m' g/\Sort.reverseLoop i k g=Sort.reverseRange d a b)
  (dm:=λe tm m'=>e=.exit 0/\Kp m m' (λy=>y=p)/\Sv B p n rest m' (Sort.reverseRange d a b))
  (by
   rintro k tm o ⟨g,i,M,L,t,k1,c,u⟩;have T:=c.gd
   by_cases f:i<k
   .obtain⟨H,A,F,S,E,C,z⟩:=c.swap (i:=i) (j:=k);obtain⟨l,q,s⟩:=aL Qb (ajL p n cc i k g[i]!.1 g[k]!.1) t (.cond (dT nX)<|.idx rfl ai<|.mem c.ld<|.idx rfl ai<|.mem c.ld<|.idx rfl ai<|.mem (aJ fS)<|.mem F<|.idx rfl ai<|.mem (aJ fS)<|.mem E<|.nil);have e:cf k 1=((k-1:Nat):Int):=lJ (j:=1) ai;rw[e,eQ]at s;refine .inl ⟨k-1,l,A,ai,q,_,i+1,ai,ai,s,k1.trans C λ_ _ h=>h,z,?_⟩;rw[<-u]
    conv=>rhs;rw[Sort.reverseLoop]
    rw[bh f]
   .obtain⟨l,q,s⟩:=aL (K:=K) (m:=o) (m':=o) Qb (ajM p n cc i k) t (.cond (dF nX)<|.nil);refine .inr ⟨_,l,o,iq,q,rfl,k1,?_⟩;rw[<-u,Sort.reverseLoop,bH f];exact c)
  (n:=b-1) (k:=100000000000000) (tm:=x) (m:=m) ⟨d,a,ai,ai,v,.refl _ _,h,rfl⟩ ai
 exact⟨m',dE (vs:=[]) alD (aC.cut w (aC.fC D (aC.done (af aM)))) (.inl rfl) rfl,r⟩
theorem VL {i:Nat}(hi:i<90000){j:Nat}(a:0<j){d:Option ab}:jk Nat.div .i64 i j d=Z (I (i / j:Nat)):=by
 obtain⟨j,rfl⟩:∃k,j=k+1:=⟨j-1,ai⟩;unfold jk
 show(match Nat.blt i (hZ .i64)with |true=>Z (ab.int .i64 (.ofNat (Nat.div i (Nat.succ j))))|false=>d)=_
 have :Nat.blt i (hZ .i64)=U:=by
  rw[show hZ .i64=9223372036854775808 from rfl,lh,iU];omega
 rw[this];rfl
def vx:Sort.Hint->Nat
 | .unknown=>0
 | .increasing=>1
 | .decreasing=>2
theorem arj (h:Sv B p n rest m d)(W:n<90000){a b:Nat}(X:b<=n)(Ay:a<b)(hB:∀b,B b->b<m.next):
  ∃m',Ev K 208 [vL p 0 n cc,I a,I b,fR] m (.tuple #[I ((Sort.choosePivot cS d a b).1:Int),I (vx (Sort.choosePivot cS d a b).2:Int)]) m'/\Kp m m' eK/\Sv B p n rest m' d/\(Sort.choosePivot cS d a b).1<n:=by
 obtain⟨o,ea,oa,S,na,_⟩:=bz h.gd [I 0];have J:=h.ext S;have dB:=h.ob.lt;have N:Cn B p o m.next 0:=⟨oa,h.gd.own S (aj _),ai,λX=>by have :=hB _ X;omega⟩;obtain⟨l,D⟩:∃l,l=b-a:=⟨_,rfl⟩;have E:cf b a=((l:Nat):Int):=by rw[D];exact lJ ai
 obtain⟨q,C⟩:∃q,q=l / 4:=⟨_,rfl⟩;have eq:∀x,jk Nat.div .i64 l 4 x=Z (I q):=λx=>by rw[C];exact VL ai (j:=4) ai
 obtain⟨t0,G,F⟩:=aU (K:=K) (m:=m) (m':=o) (tm:=entry [vL p 0 n cc,I a,I b,fR]) (ajU p n cc a b q m.next) rfl (.mem ea<|.val (by rw[E];exact eq _)<|.val (by rw[E];exact eq _)<|.val (by rw[E];exact eq _) .nil);have f1:bU a (ly q 1)=((a+q*1:Nat):Int):=by rw[show ly q 1=((q*1:Nat):Int)from Lw (j:=1) ai,oU ai]
 have f2:bU a (ly q 2)=((a+q*2:Nat):Int):=by rw[show ly q 2=((q*2:Nat):Int)from Lw (j:=2) ai,oU ai]
 have f3:bU a (ly q 3)=((a+q*3:Nat):Int):=by rw[show ly q 3=((q*3:Nat):Int)from Lw (j:=3) ai,oU ai]
 rw[E,f1,f2,f3]at F;have mP:∃(r:Nat×Nat) (i:Tm) (f:Mem),xq K (fp 208) (vE (bX 208) 6 8) ⟨t0,o,[]⟩ .normal ⟨i,f,[]⟩/\bj [11,13] i=[vP m.next 0,I (r.1:Int)]/\Kp o f (λy=>y=m.next)/\Sv B p n rest f d/\Cn B p f m.next r.2/\r.1<n/\
   Sort.choosePivot cS d a b=(r.1,if r.2=0 then .increasing else if r.2=12 then .decreasing else .unknown):=by
  by_cases h8:8<=l
  .by_cases w:50<=l
   .obtain⟨f,c1,k1,v,M,l2,v2⟩:=ahX (K:=K) (cc:=cc) J N (a:=a+q*1) ai ai W ai;obtain⟨m3,c2,k2,s3,q3,l3,v3⟩:=ahX (K:=K) (cc:=cc) v M (a:=a+q*2) ai ai W ai;obtain⟨m4,c3,k3,s4,q4,l4,v4⟩:=ahX (K:=K) (cc:=cc) s3 q3 (a:=a+q*3) ai ai W ai;obtain⟨P,c4,T,H,L,Q,v5⟩:=ahW (K:=K) (cc:=cc) s4 q4 l2 l3 l4 ai;obtain⟨i,g,k⟩:=aU (K:=K) (ajR p n cc l m.next (a+q*1) (a+q*2) (a+q*3) _ _ _ _) F (.cond (dT zR)<|.cond (dT zR)<|.call c1<|.call c2<|.call c3<|.call c4<|.nil);refine⟨_,i,P,g,k,((k1.trans k2 λ_ _ h=>h).trans k3 λ_ _ h=>h).trans T λ_ _ h=>h,H,L,Q,?_⟩;unfold Sort.choosePivot;simp only[<-D,<-C];rw[bh h8,bh w]
   .obtain⟨P,c4,T,H,L,Q,v5⟩:=ahW (K:=K) (cc:=cc) J N (a:=a+q*1) (b:=a+q*2) (c:=a+q*3) ai ai ai ai;obtain⟨i,g,k⟩:=aU (K:=K) (ajS p n cc l m.next (a+q*1) (a+q*2) (a+q*3) _) F (.cond (dT zR)<|.cond (dF zR)<|.call c4<|.nil);refine⟨_,i,P,g,k,T,H,L,Q,?_⟩;unfold Sort.choosePivot;simp only[<-D,<-C];rw[bh h8,bH w]
  .obtain⟨i,g,k⟩:=aU (K:=K) (m:=o) (m':=o) (ajT p n cc l m.next (a+q*1) (a+q*2) (a+q*3)) F (.cond (dF zR)<|.nil);refine⟨(a+q*2,0),i,o,g,k,.refl _ _,J,N,by show a+q*2<n;omega,?_⟩;unfold Sort.choosePivot;simp only[<-D,<-C];rw[bH h8];simp
 obtain⟨r,i,f,g,k,k1,v,M,V,t⟩:=mP;have R:Kp m f eK:=S.trans (k1.mono (S':=λy=>y=m.next) λ_ _ h=>h) λb X e=>by omega
 have s:aI m.next 0 f=Z (I (r.2:Int),f):=aO M.ob rfl
 by_cases z:r.2=0
 .obtain⟨t2,u,A⟩:=aU (K:=K) (m:=f) (m':=f) (ajP m.next r.1 r.2) k (.mem s<|.cond (by rw[z];rfl) .nil);rw[bh z]at t;rw[t];exact⟨f,dE (vs:=[I (r.1:Int),I 1]) Wj (aC.cut G (aC.cut g (aC.last u Ag))) (.inr rfl) A,R,v,V⟩
 .have z0:(.bool (rk (r.2:Int) 0):ab)=.bool O:=by rw[my];exact bF (by simpa using z)
  by_cases J7:r.2=12
  .obtain⟨t2,u,A⟩:=aU (K:=K) (m:=f) (m':=f) (ajQ m.next r.1 r.2) k (.mem s<|.cond z0<|.cond (by rw[J7];rfl) .nil);rw[bH z,bh J7]at t;rw[t];exact⟨f,dE (vs:=[I (r.1:Int),I 2]) Wj (aC.cut G (aC.cut g (aC.last u Ag))) (.inr rfl) A,R,v,V⟩
  .have z1:(.bool (rk (r.2:Int) 12):ab)=.bool O:=by rw[my];exact bF (yz ai)
   obtain⟨t2,u,A⟩:=aU (K:=K) (m:=f) (m':=f) (ajO m.next r.1 r.2) k (.mem s<|.cond z0<|.cond z1 .nil);rw[bH z,bH J7]at t;rw[t];exact⟨f,dE (vs:=[I (r.1:Int),I 0]) Wj (aC.cut G (aC.cut g (aC.last u Ag))) (.inr rfl) A,R,v,V⟩
end
theorem ajd (p n cc h f r:Nat):cV 254 0 1 [0,1,2,3,4] [vL p 0 n cc,I r,I h,I f,fR]
 []
 .normal [0,2,3,4,10] [vL p 0 n cc,I h,I f,fR,I r]:=cT
theorem aje (p n cc h f r:Nat):aY 254 [1,0] 0 1 [0,2,3,4,10] [vL p 0 n cc,I h,I f,fR,I r]
 []
 .normal [0,2,3,4,10,11] [vL p 0 n cc,I h,I f,fR,I r,I (bU (ly 2 r) 1)]:=cT
theorem ai9 (p n cc h f r c:Nat):aY 254 [1,0] 1 99 [0,2,3,4,10,11] [vL p 0 n cc,I h,I f,fR,I r,I c]
 [bu (th c h) U]
 (.exit 0) [] []:=cT
theorem ajc (p n cc h f r c:Nat):aY 254 [1,0] 1 5 [0,2,3,4,10,11] [vL p 0 n cc,I h,I f,fR,I r,I c]
 (bu (th c h) O::(rp 14 (.bool (dx (bU c 1) h)) O (fQ::(rp 3 (.bool (dx (bU c 1) h)) O ([jT])))))
 .normal [0,2,3,4,10,11] [vL p 0 n cc,I h,I f,fR,I r,I c]:=cT
theorem ai8 (p n cc h f r c:Nat)(x y:ab)(z:Int):aY 254 [1,0] 1 5 [0,2,3,4,10,11] [vL p 0 n cc,I h,I f,fR,I r,I c]
 (bu (th c h) O::(rp 6 (.bool (dx (bU c 1) h)) U (.idx (bU f c) n (f+c)::bu (dx (bU c 1) h) U::.mem (aI p (0+(f+c)*1)) x::(rp 6 (.bool (dx (bU c 1) h)) U ([.idx (bU (bU f c) 1) n (f+c+1),
  bu (dx (bU c 1) h) U,
  .mem (aI p (0+(f+c+1)*1)) y,
  fQ,
  bu (dx (bU c 1) h) U,
  .bZ fR [x,y] (I z),
  bu (dx (bU c 1) h) U,
  bu (dx (bU c 1) h) U,
  bu (dx z 0) U])))))
 .normal [0,2,3,4,10,11] [vL p 0 n cc,I h,I f,fR,I r,I (bU c 1)]:=cT
theorem ai7 (p n cc h f r c:Nat)(x y:ab)(z:Int):aY 254 [1,0] 1 5 [0,2,3,4,10,11] [vL p 0 n cc,I h,I f,fR,I r,I c]
 (bu (th c h) O::(rp 6 (.bool (dx (bU c 1) h)) U (.idx (bU f c) n (f+c)::bu (dx (bU c 1) h) U::.mem (aI p (0+(f+c)*1)) x::(rp 6 (.bool (dx (bU c 1) h)) U ([.idx (bU (bU f c) 1) n (f+c+1),
  bu (dx (bU c 1) h) U,
  .mem (aI p (0+(f+c+1)*1)) y,
  fQ,
  bu (dx (bU c 1) h) U,
  .bZ fR [x,y] (I z),
  bu (dx (bU c 1) h) U,
  bu (dx (bU c 1) h) U,
  bu (dx z 0) O])))))
 .normal [0,2,3,4,10,11] [vL p 0 n cc,I h,I f,fR,I r,I c]:=cT
theorem ajb (p n cc h f r c:Nat)(x y:ab)(z:Int):aY 254 [1,0] 5 99 [0,2,3,4,10,11] [vL p 0 n cc,I h,I f,fR,I r,I c]
 [.idx (bU f r) n (f+r),
  .mem (aI p (0+(f+r)*1)) x,
  .idx (bU f c) n (f+c),
  .mem (aI p (0+(f+c)*1)) y,
  fQ,
  .bZ fR [x,y] (I z),
  bu (!(dx z 0)) U]
 .ret [] []:=cT
theorem aja (p n cc h f r c:Nat)(x y:ab)(z:Int):aY 254 [1,0] 5 99 [0,2,3,4,10,11] [vL p 0 n cc,I h,I f,fR,I r,I c]
 [.idx (bU f r) n (f+r),
  .mem (aI p (0+(f+r)*1)) x,
  .idx (bU f c) n (f+c),
  .mem (aI p (0+(f+c)*1)) y,
  fQ,
  .bZ fR [x,y] (I z),
  bu (!(dx z 0)) O,
  .idx (bU f c) n (f+c),
  .mem (aI p (0+(f+c)*1)) y,
  .idx (bU f r) n (f+r),
  .mem (aI p (0+(f+r)*1)) x,
  .idx (bU f r) n (f+r),
  fQ,
  .mem (du p (0+(f+r)*1) y) undef,
  .idx (bU f c) n (f+c),
  fQ,
  .mem (du p (0+(f+c)*1) x) undef]
 .normal [0,2,3,4,10] [vL p 0 n cc,I h,I f,fR,I c]:=cT
theorem adY:jJ 254 5 []=U:=aM
theorem aci:jY (bX 254) 1=Z (0,(cj 254 [1])):=aM
theorem IL:jz 254 [1]:=aM
theorem acn:mm (fp 254) (bX 254) (cj 254 [1]) 1 0=U:=aM
theorem AU:jD (cj 254 [1]) 0=Z (1,(cj 254 [1,0])):=aM
theorem AQ:kT (fp 254) (cj 254 [1]) (cj 254 [1,0]) 0 1=U:=aM
section
variable {K:fE}{B:Nat->Prop}{p n cc:Nat}{rest:List ab}{m m':Mem}{d:Array El}
theorem i254 (h:Sv B p n rest m d)(G:n<90000){f hi r c:Nat}(F:r<c)(H:c<hi)(J:f+hi<=n){tm:Tm}(s:bj [0,2,3,4,10,11] tm=[vL p 0 n cc,I hi,I f,fR,I r,I c]):
  (∃e m',aC K (fp 254) (cj 254 [1,0]) 5 ⟨tm,m,[]⟩ .ret ⟨e,m',[]⟩/\Kp m m' eK/\Sv B p n rest m' d/\(!cS d[f+r]! d[f+c]!)=U)\/
  (∃e m',aC K (fp 254) (cj 254 [1,0]) 5 ⟨tm,m,[]⟩ .normal ⟨e,m',[]⟩/\Kp m m' (λy=>y=p)/\Sv B p n rest m' (Sort.swp d (f+r) (f+c))/\bj [0,2,3,4,10] e=[vL p 0 n cc,I hi,I f,fR,I c]/\¬(!cS d[f+r]! d[f+c]!)=U):=by
 obtain⟨z,x,t,o,b,q⟩:=h.cmp (K:=K) (i:=f+r) (j:=f+c);have g:=h.gd;have M:=b.gd
 by_cases a:cS d[f+r]! d[f+c]! =U
 .obtain⟨E,w,D,L,C,A,v⟩:=b.swap (i:=f+r) (j:=f+c);obtain⟨l,k,u⟩:=aU (aja p n cc hi f r c d[f+r]!.1 d[f+c]!.1 z) s (.idx oU ai<|.mem h.ld<|.idx oU ai<|.mem h.ld<|.mem (aJ fS)<|.bZ t<|.cond (bF (by rw[q,a];rfl))<|.idx oU ai<|.mem b.ld<|.idx oU ai<|.mem b.ld<|.idx oU ai<|.mem (aJ fS)<|.mem D<|.idx oU ai<|.mem (aJ fS)<|.mem C<|.nil);exact .inr ⟨l,w,aC.last k (af aM),o.sC.trans A λ_ _ h=>h,v,u,by simp[a]⟩
 .have a:=Bool.eq_false_iff.2 a;obtain⟨l,k,u⟩:=aU (ajb p n cc hi f r c d[f+r]!.1 d[f+c]!.1 z) s (.idx oU ai<|.mem h.ld<|.idx oU ai<|.mem h.ld<|.mem (aJ fS)<|.bZ t<|.cond (bT (by rw[q,a];rfl))<|.nil);exact .inl ⟨l,x,aC.last k (af aM),o,b,by simp[a]⟩
theorem ans (h:Sv B p n rest m d)(hn:n<90000){lo hi f:Nat}(hb:f+hi<=n)(j8:lo<90000):
  ∃m',Ev K 254 [vL p 0 n cc,I lo,I hi,I f,fR] m (.tuple #[]) m'/\Kp m m' (λy=>y=p)/\Sv B p n rest m' (Sort.siftDown cS hi f lo d):=by
 obtain⟨X,N,e0⟩:=aU (K:=K) (m:=m) (m':=m) (tm:=entry [vL p 0 n cc,I lo,I hi,I f,fR]) (ajd p n cc hi f lo) rfl .nil;obtain⟨e,t1,m',he,Q,Jj,r⟩:=j7 (K:=K) (nt:=fp 254) (a:=cj 254 [1])
  (Inv:=λk tm m'=>∃(b:Array El) (r:Nat),r<90000/\k=hi-r/\bj [0,2,3,4,10] tm=[vL p 0 n cc,I hi,I f,fR,I r]/\Kp m m' (λy=>y=p)/\Sv B p n rest m' b/\Sort.siftDown cS hi f r b=Sort.siftDown cS hi f lo d)
  (dm:=λe tm m'=>(e=.exit 0\/e=.ret)/\Kp m m' (λy=>y=p)/\Sv B p n rest m' (Sort.siftDown cS hi f lo d))
  (by
   rintro k tm g ⟨b,r,hr,rfl,hg,k1,s,L⟩;have g1:=s.gd;obtain⟨V,C,x⟩:=aU (K:=K) (m:=g) (m':=g) (aje p n cc hi f r) hg .nil;rw[show ly 2 r=((2*r:Nat):Int)from Lw (i:=2) ai,eQ]at x
   by_cases A:2*r+1≥hi
   .obtain⟨W,T,cA⟩:=aU (K:=K) (m:=g) (m':=g) (ai9 p n cc hi f r (2*r+1)) x (.cond (dT zR)<|.nil);refine .inr ⟨.exit 0,W,g,iq,(aC.Pk AU AQ (aC.cut C (aC.last T (af aM))) rfl aM).code IL,.inl rfl,k1,?_⟩;rw[<-L,Sort.siftDown,dif_pos A];exact s
   .have pick:∃(c:Nat) (o:Tm) (u:Mem),xq K (fp 254) (vE (cj 254 [1,0]) 1 5) ⟨V,g,[]⟩ .normal ⟨o,u,[]⟩/\bj [0,2,3,4,10,11] o=[vL p 0 n cc,I hi,I f,fR,I r,I c]/\Kp g u eK/\Sv B p n rest u b/\c<hi/\r<c/\
      Sort.siftDown cS hi f r b=(if(!cS b[f+r]! b[f+c]!)=U then b else Sort.siftDown cS hi f c (Sort.swp b (f+r) (f+c))):=by
     by_cases M:2*r+1+1<hi
     .obtain⟨z,u,S,w,v,P⟩:=s.cmp (K:=K) (i:=f+(2*r+1)) (j:=f+(2*r+1)+1);have g2:=v.gd
      by_cases l:cS b[f+(2*r+1)]! b[f+(2*r+1)+1]! =U
      .obtain⟨o,q,t⟩:=aU (ai8 p n cc hi f r (2*r+1) b[f+(2*r+1)]!.1 b[f+(2*r+1)+1]!.1 z) x (.cond (dF zR)<|.rp (dT (by rw[eQ];exact nX))<|.idx oU ai<|.cond (dT (by rw[eQ];exact nX))<|.mem s.ld<|.rp (dT (by rw[eQ];exact nX))<|.idx (by rw[oU,eQ]) ai<|.cond (dT (by rw[eQ];exact nX))<|.mem s.ld<|.mem (aJ fS)<|.cond (dT (by rw[eQ];exact nX))<|.bZ S<|.cond (dT (by rw[eQ];exact nX))<|.cond (dT (by rw[eQ];exact nX))<|.cond (bT (P.trans l))<|.nil);rw[eQ]at t;refine⟨2*r+2,o,u,q,t,w,v,M,ai,?_⟩;rw[Sort.siftDown,dif_neg A,bh (by simp[M,l])];simp only[dif_pos (show 2*r+2<hi from M)]
      .have l:=Bool.eq_false_iff.2 l;obtain⟨o,q,t⟩:=aU (ai7 p n cc hi f r (2*r+1) b[f+(2*r+1)]!.1 b[f+(2*r+1)+1]!.1 z) x (.cond (dF zR)<|.rp (dT (by rw[eQ];exact nX))<|.idx oU ai<|.cond (dT (by rw[eQ];exact nX))<|.mem s.ld<|.rp (dT (by rw[eQ];exact nX))<|.idx (by rw[oU,eQ]) ai<|.cond (dT (by rw[eQ];exact nX))<|.mem s.ld<|.mem (aJ fS)<|.cond (dT (by rw[eQ];exact nX))<|.bZ S<|.cond (dT (by rw[eQ];exact nX))<|.cond (dT (by rw[eQ];exact nX))<|.cond (bF (P.trans l))<|.nil);refine⟨2*r+1,o,u,q,t,w,v,ai,ai,?_⟩;rw[Sort.siftDown,dif_neg A,bH (by simp[l])]
     .obtain⟨o,q,t⟩:=aU (K:=K) (m:=g) (m':=g) (ajc p n cc hi f r (2*r+1)) x (.cond (dF zR)<|.rp (dF (by rw[eQ];exact nX))<|.mem (aJ fS)<|.rp (dF (by rw[eQ];exact nX))<|.cond rfl<|.nil);refine⟨2*r+1,o,g,q,t,.refl _ _,s,ai,ai,?_⟩;rw[Sort.siftDown,dif_neg A,bH (by simp;omega)]
    obtain⟨c,o,u,q,t,w,v,hc,J,R⟩:=pick;rcases i254 (K:=K) v hn J hc hb t with⟨E,G,D,H,F,l⟩|⟨E,G,D,H,F,e3,l⟩
    .refine .inr ⟨.ret,E,G,iq,(aC.AS AU AQ (aC.cut C (aC.cut q D)) aM).code IL,.inr rfl,(k1.aX w).aX H,?_⟩;rw[<-L,R,bh l];exact F
    .refine .inl ⟨hi-c,E,G,ai,(aC.uz AU AQ (aC.cut C (aC.cut q D)) (.inl rfl) (aC.done (af aM))).code IL,_,c,ai,rfl,e3,(k1.aX w).trans H λ_ _ h=>h,F,?_⟩;rw[<-L,R,bH l])
  (n:=hi-lo) (k:=100000000000000) (tm:=X) (m:=m) ⟨d,lo,j8,rfl,e0,.refl _ _,h,rfl⟩ ai
 rcases Jj with rfl|rfl
 .exact⟨m',dE (vs:=[]) adY (aC.cut N (aC.fC Q (aC.done (af aM)))) (.inl rfl) rfl,r⟩
 .exact⟨m',dE (vs:=[]) adY (aC.cut N (aC.By aci acn Q aM)) (.inr rfl) rfl,r⟩
end
theorem aj5 (p n cc a b q:Nat):cV 206 0 4 [0,1,2,3] [vL p 0 n cc,I a,I b,fR]
 [.val (jk Nat.div .i64 (cf (cf b a) 1) 2 (j5 ae .quo 3 O U (I (cf (cf b a) 1)) (I 2))) (I q)]
 .normal [0,3,8,9,10,11] [vL p 0 n cc,fR,I a,I 0,I (cf b a),I q]:=cT
theorem aj1 (p n cc a h k:Nat):aY 206 [4] 0 99 [0,3,8,9,10,11] [vL p 0 n cc,fR,I a,I 0,I h,I k]
 [bu (th k 0) U,
  .call 254 [vL p 0 n cc,I k,I h,I a,fR] (.tuple #[])]
 .normal [0,3,8,9,10,11] [vL p 0 n cc,fR,I a,I 0,I h,I (cf k 1)]:=cT
theorem aj3 (p n cc a h:Nat)(i:Int):aY 206 [4] 0 99 [0,3,8,9,10,11] [vL p 0 n cc,fR,I a,I 0,I h,I i]
 [bu (th i 0) O]
 (.exit 0) [0,3,8,9,10] [vL p 0 n cc,fR,I a,I 0,I h]:=cT
theorem aj4 (p n cc a h:Nat):cV 206 5 6 [0,3,8,9,10] [vL p 0 n cc,fR,I a,I 0,I h]
 []
 .normal [0,3,8,9,12] [vL p 0 n cc,fR,I a,I 0,I (cf h 1)]:=cT
theorem aj0 (p n cc a k:Nat)(x y:ab):aY 206 [6] 0 99 [0,3,8,9,12] [vL p 0 n cc,fR,I a,I 0,I k]
 [bu (th k 0) U,
  .idx (bU a k) n (a+k),
  .mem (aI p (0+(a+k)*1)) y,
  .idx a n a,
  .mem (aI p (0+a*1)) x,
  .idx a n a,
  fQ,
  .mem (du p (0+a*1) y) undef,
  .idx (bU a k) n (a+k),
  fQ,
  .mem (du p (0+(a+k)*1) x) undef,
  .call 254 [vL p 0 n cc,I 0,I k,I a,fR] (.tuple #[])]
 .normal [0,3,8,9,12] [vL p 0 n cc,fR,I a,I 0,I (cf k 1)]:=cT
theorem aj2 (p n cc a:Nat)(i:Int):aY 206 [6] 0 99 [0,3,8,9,12] [vL p 0 n cc,fR,I a,I 0,I i]
 [bu (th i 0) O]
 (.exit 2) [] []:=cT
theorem alF:jJ 206 4 []=U:=aM
theorem Qd:jz 206 [4]:=aM
theorem Qc:jz 206 [6]:=aM
section
variable {K:fE}{B:Nat->Prop}{p n cc:Nat}{rest:List ab}{m m':Mem}{d:Array El}
theorem WT {k:Nat}(h:k<2^60:=by omega):cf k 1=(k:Int)-1:=yK ⟨ai,ai⟩
theorem arl (h:Sv B p n rest m d)(F:n<90000){a b:Nat}(Ay:a<b)(hb:b<=n):
  ∃m',Ev K 206 [vL p 0 n cc,I a,I b,fR] m (.tuple #[]) m'/\Kp m m' (λy=>y=p)/\Sv B p n rest m' (Sort.heapSort cS d a b):=by
 obtain⟨hi,G⟩:∃hi,hi=b-a:=⟨_,rfl⟩;have H:cf b a=((hi:Nat):Int):=by rw[G];exact lJ ai
 have W:cf hi 1=((hi-1:Nat):Int):=lJ (j:=1) ai;obtain⟨P,N,J⟩:=aU (K:=K) (m:=m) (m':=m) (tm:=entry [vL p 0 n cc,I a,I b,fR]) (aj5 p n cc a b ((hi-1) / 2)) rfl (.val (by rw[H,W];exact VL ai (j:=2) ai) .nil);rw[H]at J;obtain⟨_,t1,c,_,L,rfl,C,k1,g⟩:=j7 (K:=K) (nt:=fp 206) (a:=cj 206 [4])
  (Inv:=λk tm m'=>∃(o:Array El) (i:Int),k<=hi/\i=(k:Int)-1/\bj [0,3,8,9,10,11] tm=[vL p 0 n cc,fR,I a,I 0,I hi,I i]/\Kp m m' (λy=>y=p)/\Sv B p n rest m' o/\Sort.heapBuild cS hi a k o=Sort.heapBuild cS hi a ((hi-1) / 2+1) d)
  (dm:=λe tm m'=>e=.exit 0/\bj [0,3,8,9,10] tm=[vL p 0 n cc,fR,I a,I 0,I hi]/\Kp m m' (λy=>y=p)/\Sv B p n rest m' (Sort.heapBuild cS hi a ((hi-1) / 2+1) d))
  (by
   rintro k tm c ⟨o,i,S,rfl,s,k1,g,u⟩;cases k with
   |zero=>
    obtain⟨l,t,q⟩:=aL (K:=K) (m:=c) (m':=c) Qd (aj3 p n cc a hi (((0:Nat):Int)-1)) s (.cond (by rfl) .nil);exact .inr ⟨_,l,c,iq,t,rfl,q,k1,by rw[<-u];exact g⟩
   |succ k=>
    rw[show((k+1:Nat):Int)-1=(k:Int) by omega]at s;obtain⟨x,D,z,w⟩:=ans (K:=K) (cc:=cc) g F (lo:=k) (hi:=hi) (f:=a) ai ai;obtain⟨l,t,q⟩:=aL Qd (aj1 p n cc a hi k) s (.cond (dT (zR (j:=0)))<|.call D<|.nil);rw[WT]at q;exact .inl ⟨k,l,x,ai,t,_,_,ai,rfl,q,k1.trans z λ_ _ h=>h,w,u⟩)
  (n:=(hi-1) / 2+1) (k:=100000000000000) (tm:=P) (m:=m) ⟨d,_,ai,ai,J,.refl _ _,h,rfl⟩ ai
 obtain⟨l,M,v⟩:=aU (K:=K) (m:=c) (m':=c) (aj4 p n cc a hi) C .nil;rw[WT]at v;obtain⟨e,X,E,he,A,rfl,r⟩:=j7 (K:=K) (nt:=fp 206) (a:=cj 206 [6])
  (Inv:=λk tm m'=>∃(o:Array El) (i:Int),k<=hi/\i=(k:Int)-1/\bj [0,3,8,9,12] tm=[vL p 0 n cc,fR,I a,I 0,I i]/\Kp m m' (λy=>y=p)/\Sv B p n rest m' o/\Sort.heapPop cS a k o=Sort.heapSort cS d a b)
  (dm:=λe tm m'=>e=.exit 2/\Kp m m' (λy=>y=p)/\Sv B p n rest m' (Sort.heapSort cS d a b))
  (by
   rintro k tm c ⟨o,i,S,rfl,s,k1,g,u⟩;cases k with
   |zero=>
    obtain⟨l,t,q⟩:=aL (K:=K) (m:=c) (m':=c) Qc (aj2 p n cc a (((0:Nat):Int)-1)) s (.cond (by rfl) .nil);exact .inr ⟨_,l,c,iq,t,rfl,k1,by rw[<-u];exact g⟩
   |succ k=>
    rw[show((k+1:Nat):Int)-1=(k:Int) by omega]at s;have g1:=g.gd;obtain⟨E,m4,V,g3,T,R,Q⟩:=g.swap (i:=a) (j:=a+k);obtain⟨x,D,z,w⟩:=ans (K:=K) (cc:=cc) Q F (lo:=0) (hi:=k) (f:=a) ai ai;obtain⟨l,t,q⟩:=aL Qc (aj0 p n cc a k o[a]!.1 o[a+k]!.1) s (.cond (dT (zR (j:=0)))<|.idx oU ai<|.mem g.ld<|.idx rfl ai<|.mem g.ld<|.idx rfl ai<|.mem (aJ fS)<|.mem V<|.idx oU ai<|.mem (aJ fS)<|.mem T<|.call D<|.nil);rw[WT]at q;exact .inl ⟨k,l,x,ai,t,_,_,ai,rfl,q,(k1.trans R λ_ _ h=>h).trans z λ_ _ h=>h,w,u⟩)
  (n:=hi) (k:=100000000000000) (tm:=l) (m:=c) ⟨_,_,ai,rfl,v,k1,g,by unfold Sort.heapSort;rw[<-G]⟩ ai
 exact⟨E,dE (vs:=[]) alF (aC.cut N (aC.fC L (aC.cut M (aC.fC A (aC.done (af aM)))))) (.inl rfl) rfl,r⟩
end
theorem GF (x:Nat):bY.u64.wrap x=((x%18446744073709551616:Nat):Int):=by
 unfold bY.wrap;simp[bY.signed,bY.bits]
abbrev vW (n:Int):ab:=.int .u64 n
theorem aiT (t x k:Nat)(a:k<64):j5 ae .shl t O U (vW x) (vW k)=Z (vW (x*2^k%18446744073709551616:Nat)):=by
 have e:j5 ae .shl t O U (vW x) (vW k)=Z (vW (bY.u64.wrap ((x:Int)*2^(min k 64)))):=by
  refine vh rfl ?_ rfl;rw[ig]
  show(Op.shift .shl .u64 x .u64 k).aQ ae=_
  unfold Op.shift;rw[bH ai];rfl
 rw[e,Nat.min_eq_left ai,<-GF];simp
theorem aiS (t x k:Nat)(a:k<64):j5 ae .shr t O U (vW x) (vW k)=Z (vW (x / 2^k:Nat)):=by
 have e:j5 ae .shr t O U (vW x) (vW k)=Z (vW ((x:Int).fdiv (2^(min k 64)))):=by
  refine vh rfl ?_ rfl;rw[ig]
  show(Op.shift .shr .u64 x .u64 k).aQ ae=_
  unfold Op.shift;rw[bH ai];rfl
 rw[e,Nat.min_eq_left ai,Int.fdiv_eq_ediv_of_nonneg _ (Int.pow_nonneg eJ)];simp
theorem ofI (x:Nat):BitVec.ofInt 64 x=BitVec.ofNat 64 x:=dA
theorem aeU {t x y:Nat}(b:x<18446744073709551616)(a:y<18446744073709551616):tC Nat.xor .u64 x y (j5 ae .xor t O O (vW x) (vW y))=Z (vW (x^^^y:Nat)):=by
 have e:j5 ae .xor t O O (vW x) (vW y)=Z (vW (bY.u64.wrap ((BitVec.ofInt 64 x^^^BitVec.ofInt 64 y).toNat))):=by
  refine vh rfl ?_ rfl;rw[ig];rfl
 rw[e,GF,ofI,ofI,BitVec.toNat_xor,BitVec.toNat_ofNat,BitVec.toNat_ofNat,Nat.mod_eq_of_lt b,Nat.mod_eq_of_lt a,Nat.mod_eq_of_lt (Nat.xor_lt_two_pow (n:=64) b a)]
 show(match Nat.blt x (hZ .u64)&&Nat.blt y (hZ .u64)with |true=>Z (vW (Int.ofNat (x^^^y)))|false=>_)=_
 split<;>rfl
theorem arE {t x y:Nat}(a:x<18446744073709551616)(b:y<18446744073709551616):tC Nat.land .u64 x y (j5 ae .and t O O (vW x) (vW y))=Z (vW (x&&&y:Nat)):=by
 have e:j5 ae .and t O O (vW x) (vW y)=Z (vW (bY.u64.wrap ((BitVec.ofInt 64 x&&&BitVec.ofInt 64 y).toNat))):=by
  refine vh rfl ?_ rfl;rw[ig];rfl
 rw[e,GF,ofI,ofI,BitVec.toNat_and,BitVec.toNat_ofNat,BitVec.toNat_ofNat,Nat.mod_eq_of_lt a,Nat.mod_eq_of_lt b,Nat.mod_eq_of_lt (Nat.lt_of_le_of_lt Nat.and_le_left a)]
 show(match Nat.blt x (hZ .u64)&&Nat.blt y (hZ .u64)with |true=>Z (vW (Int.ofNat (x&&&y)))|false=>_)=_
 split<;>rfl
theorem cvW {t x:Nat}(a:x<18446744073709551616)(b:t=195\/t=415):pu ae [I x] (convert 3 t (I x))=Z (vW x):=by
 have e:pu ae [I x] (convert 3 t (I x))=Z (vW (bY.u64.wrap x)):=by
  rcases b with rfl|rfl<;>kernel_rfl
 rw[e,GF,Nat.mod_eq_of_lt a]
theorem cvI {x:Nat}(a:x<2^60):pu ae [vW x] (convert 195 3 (vW x))=Z (I x):=by
 have e:pu ae [vW x] (convert 195 3 (vW x))=Z (I (bY.i64.wrap x)):=aM;rw[e,rK ⟨ai,ai⟩]
def Ii:ByteArray:=⟨((List.range 256).map λn=>UInt8.ofNat (Sort.bitsLen n)).toArray⟩
theorem GQ:Ii.size=256:=aM
theorem Uz:((List.range 256).all λy=>BY Ii y==Sort.bitsLen y)=U:=aM
theorem PH {y:Nat}(h:y<256):BY Ii y=Sort.bitsLen y:=by simpa using aB.1 Uz y (List.mem_range.2 h)
theorem YV {l:Nat}(h:256<=l):Sort.bitsLen l=Sort.bitsLen (l / 256)+8:=by
 have k:∀k,Sort.bitsLen l<=k↔Sort.bitsLen (l / 256)+8<=k:=λk=>by
  rw[Sort.bitsLen_le_iff]
  by_cases a:8<=k
  .obtain⟨j,rfl⟩:∃j,k=j+8:=⟨k-8,ai⟩;rw[show Sort.bitsLen (l / 256)+8<=j+8↔Sort.bitsLen (l / 256)<=j by omega,Sort.bitsLen_le_iff,Nat.pow_add,Nat.div_lt_iff_lt_mul eJ]
  .have :2^k<=2^8:=Nat.pow_le_pow_right eJ ai
   constructor<;>intro <;>omega
 exact Nat.le_antisymm ((k _).2 (aj _)) ((k _).1 (aj _))
theorem aoY (s w f b e a d c:Nat):Path 256 [vP s 0]
 [.mem (aI s 0) (.int .u64 w),
  .mem (aI s 0) (.int .u64 w),
  .val (j5 ae .shl 415 O U (.int .u64 w) (.int .u64 13)) (.int .u64 f),
  .val (tC Nat.xor .u64 w f (j5 ae .xor 415 O O (.int .u64 w) (.int .u64 f))) (.int .u64 b),
  fQ,
  .mem (du s 0 (.int .u64 b)) undef,
  .mem (aI s 0) (.int .u64 b),
  .mem (aI s 0) (.int .u64 b),
  .val (j5 ae .shr 415 O U (.int .u64 b) (.int .u64 7)) (.int .u64 e),
  .val (tC Nat.xor .u64 b e (j5 ae .xor 415 O O (.int .u64 b) (.int .u64 e))) (.int .u64 a),
  fQ,
  .mem (du s 0 (.int .u64 a)) undef,
  .mem (aI s 0) (.int .u64 a),
  .mem (aI s 0) (.int .u64 a),
  .val (j5 ae .shl 415 O U (.int .u64 a) (.int .u64 17)) (.int .u64 d),
  .val (tC Nat.xor .u64 a d (j5 ae .xor 415 O O (.int .u64 a) (.int .u64 d))) (.int .u64 c),
  fQ,
  .mem (du s 0 (.int .u64 c)) undef,
  .mem (aI s 0) (.int .u64 c)]
 (.int .u64 c):=lF
theorem aoZ (l k M:Nat):Path 255 [I l]
 [.val (pu ae [I l] (convert 3 195 (I l))) (.int .u64 l),
  .call 153 [.int .u64 l] (I k),
  .val (j5 ae .shl 195 U O (.int .u64 1) (I k)) (.int .u64 M)]
 (.int .u64 M):=lF
theorem alx (l k:Nat):Path 153 [.int .u64 l]
 [jT,
  .call 214 [.int .u64 l] (I k)]
 (I k):=lF
theorem als (l h y k:Nat):Path 214 [.int .u64 l]
 [bu (th l 4294967296) O,
  bu (th l 65536) O,
  bu (th l 256) O,
  .val (pu ae [.int .u64 l] (convert 262 5 (.int .u64 l))) (.int .u8 y),
  .idx y Ii.size y,
  .val (pu ae [.int .u8 (BY Ii y:Nat)] (convert 5 3 (.int .u8 (BY Ii y:Nat)))) (I k)]
 (I (bU 0 k)):=lF
theorem alr (l h y k:Nat):Path 214 [.int .u64 l]
 [bu (th l 4294967296) O,
  bu (th l 65536) O,
  bu (th l 256) U,
  .val (j5 ae .shr 262 O U (.int .u64 l) (.int .u64 8)) (.int .u64 h),
  .val (pu ae [.int .u64 h] (convert 262 5 (.int .u64 h))) (.int .u8 y),
  .idx y Ii.size y,
  .val (pu ae [.int .u8 (BY Ii y:Nat)] (convert 5 3 (.int .u8 (BY Ii y:Nat)))) (I k)]
 (I (bU 8 k)):=lF
section
variable {K:fE}{m:Mem}
theorem cv8 {x:Nat}(h:x<256):pu ae [vW x] (convert 262 5 (vW x))=Z (.int .u8 x):=by
 have e:pu ae [vW x] (convert 262 5 (vW x))=Z (.int .u8 (bY.u8.wrap x)):=aM;rw[e,show bY.u8.wrap x=x by unfold bY.wrap;simp[bY.signed,bY.bits];omega]
theorem cv9 {x:Nat}(h:x<256):pu ae [.int .u8 x] (convert 5 3 (.int .u8 x))=Z (I x):=by
 have e:pu ae [.int .u8 x] (convert 5 3 (.int .u8 x))=Z (I (bY.i64.wrap x)):=aM;rw[e,rK ⟨ai,ai⟩]
theorem C8 {l:Nat}(h:l<256):Sort.bitsLen l<256:=Nat.lt_of_le_of_lt ((Sort.bitsLen_le_iff l 8).2 h) eJ
theorem ard {l:Nat}(h:l<65536):Ev K 214 [vW l] m (I (Sort.bitsLen l:Int)) m:=by
 by_cases b:l<256
 .have :=bg (K:=K) (m:=m) (m':=m) (als l 0 l (Sort.bitsLen l)) (.cond (dF (zR (j:=4294967296)))<|.cond (dF (zR (j:=65536)))<|.cond (dF (zR (j:=256)))<|.val (cv8 b)<|.idx rfl (by rw[GQ];exact b)<|.val (by rw[PH b];exact cv9 (C8 b)) .nil);rwa[show bU 0 (Sort.bitsLen l:Nat)=((0+Sort.bitsLen l:Nat):Int)from oU (i:=0) (by have :=C8 b;omega),Nat.zero_add]at this
 .have a:l / 256<256:=ai;have :=bg (K:=K) (m:=m) (m':=m) (alr l (l / 256) (l / 256) (Sort.bitsLen (l / 256))) (.cond (dF (zR (j:=4294967296)))<|.cond (dF (zR (j:=65536)))<|.cond (dT (zR (j:=256)))<|.val (aiS 262 l 8 eJ)<|.val (cv8 a)<|.idx rfl (by rw[GQ];exact a)<|.val (by rw[PH a];exact cv9 (C8 a)) .nil);rwa[show bU 8 ((Sort.bitsLen (l / 256):Nat):Int)=((8+Sort.bitsLen (l / 256):Nat):Int)from oU (i:=8) (by have :=C8 a;omega),Nat.add_comm,<-YV ai]at this
theorem ahZ {l:Nat}(h:l<65536):Ev K 153 [vW l] m (I (Sort.bitsLen l:Int)) m:=bg (alx l _) (.cond rfl<|.call (ard h) .nil)
theorem aq9 {l:Nat}(h:l<65536):Ev K 255 [I l] m (vW (1<<<Sort.bitsLen l:Nat)) m:=by
 refine bg (aoZ l (Sort.bitsLen l) _) (.val (cvW ai (.inl rfl))<|.call (ahZ h)<|.val ?_ .nil);have a:Sort.bitsLen l<=16:=(Sort.bitsLen_le_iff l 16).2 h;have e:j5 ae .shl 195 U O (.int .u64 1) (I (Sort.bitsLen l:Int))=Z (vW (bY.u64.wrap ((1:Int)*2^(min (Sort.bitsLen l) 64)))):=by
  refine vh rfl ?_ rfl;rw[ig]
  show(Op.shift .shl .u64 1 .i64 (Sort.bitsLen l:Int)).aQ ae=_
  unfold Op.shift;rw[bH ai];rfl
 rw[e,Nat.min_eq_left ai,show(1:Int)*2^Sort.bitsLen l=((2^Sort.bitsLen l:Nat):Int) by simp,GF,Nat.one_shiftLeft,Nat.mod_eq_of_lt (Nat.lt_of_le_of_lt (Nat.pow_le_pow_right eJ a) eJ)]
theorem aq8 (g:Gd m){s:Nat}{r:UInt64}(o:Obj m s 0 [vW (r.toNat:Int)])(w:Own m s):
  ∃f,Ev K 256 [vP s 0] m (vW ((Sort.xorNext r).toNat:Int)) f/\Kp m f (λy=>y=s)/\Obj f s 0 [vW ((Sort.xorNext r).toNat:Int)]:=by
 rw[Sort.xorNext_toNat];have c:=r.toNat_lt;generalize r.toNat=x at*;have c:x<2^64:=c;unfold Sort.xorNextN;have l:x^^^(x*8192%18446744073709551616)<2^64:=Nat.xor_lt_two_pow c ai;have u:(x^^^(x*8192%18446744073709551616))^^^((x^^^(x*8192%18446744073709551616)) / 128)<2^64:=Nat.xor_lt_two_pow l ai;simp only[];generalize z:x^^^(x*8192%18446744073709551616)=a at*;generalize v:a^^^(a / 128)=b at*;obtain⟨F,D,e,k1⟩:=gj (vW a) o (w.may 0 1) dA;have j:=w.ext k1;obtain⟨E,C,d,i⟩:=gj (vW b) e (j.may 0 1) dA;have p:=j.ext i;obtain⟨q,B,k,t⟩:=gj (vW ((b^^^(b*131072%18446744073709551616):Nat):Int)) d (p.may 0 1) dA;have n:=g.ext k1;have A:=n.ext i;refine⟨q,bg (aoY s x (x*8192%18446744073709551616) a (a / 128) b (b*131072%18446744073709551616) _) ?_,(k1.trans i λ_ _ h=>h).trans t λ_ _ h=>h,k⟩;exact .mem (aO o rfl)<|.mem (aO o rfl)<|.val (aiT 415 x 13 eJ)<|.val (z▸aeU c ai)<|.mem (aJ g)<|.mem D<|
  .mem (aO e rfl)<|.mem (aO e rfl)<|.val (aiS 415 a 7 eJ)<|.val (v▸aeU l ai)<|.mem (aJ n)<|.mem C<|
  .mem (aO d rfl)<|.mem (aO d rfl)<|.val (aiT 415 b 17 eJ)<|.val (aeU u ai)<|.mem (aJ A)<|.mem B<|.mem (aO k rfl) .nil
end
theorem an7 {x:Nat}(h:0<x)(a:x<18446744073709551616):J9 xC Int.sub .u64 x 1=((x-1:Nat):Int):=by
 have e:J9 xC Int.sub .u64 x 1=bY.u64.wrap ((x:Int)-1):=JP λn h=>RP h
 rw[e,show(x:Int)-1=((x-1:Nat):Int) by omega,GF,Nat.mod_eq_of_lt ai]
theorem ajZ (p n cc a b:Nat):cV 207 0 2 [0,1,2,3] [vL p 0 n cc,I a,I b,fR]
 []
 .normal [0,1,8,17] [vL p 0 n cc,I a,I (cf b a),.bool (th (cf b a) 8)]:=cT
theorem ajY (p n cc a l M q s:Nat):aY 207 [2,0] 0 3 [0,1,8] [vL p 0 n cc,I a,I l]
 [.val (pu ae [I l] (convert 3 415 (I l))) (.int .u64 l),
  jF [Z (.int .u64 0)] s,
  .mem (du s 0 (.int .u64 l)) undef,
  .call 255 [I l] (.int .u64 M),
  .val (jk Nat.div .i64 l 4 (j5 ae .quo 3 O U (I l) (I 4))) (I q)]
 .normal [0,1,8,9,10,11] [vL p 0 n cc,I a,I l,vP s 0,.int .u64 M,I (cf (bU a (ly q 2)) 1)]:=cT
theorem ajV (p n cc a l s M q i r o:Nat)(x y:ab):aY 207 [2,0,3] 0 99 [0,1,8,9,10,11] [vL p 0 n cc,I a,I l,vP s 0,.int .u64 M,I i]
 [.val (jk Nat.div .i64 l 4 (j5 ae .quo 3 O U (I l) (I 4))) (I q),
  bu (gu i (bU (bU a (ly q 2)) 1)) U,
  .call 256 [vP s 0] (.int .u64 r),
  .val (tC Nat.land .u64 r (J9 xC Int.sub .u64 M 1) (j5 ae .and 195 O O (.int .u64 r) (.int .u64 (J9 xC Int.sub .u64 M 1)))) (.int .u64 o),
  .val (pu ae [.int .u64 o] (convert 195 3 (.int .u64 o))) (I o),
  bu (th o l) O,
  .idx (bU a o) n (a+o),
  .mem (aI p (0+(a+o)*1)) y,
  .idx i n i,
  .mem (aI p (0+i*1)) x,
  .idx i n i,
  fQ,
  .mem (du p (0+i*1) y) undef,
  .idx (bU a o) n (a+o),
  fQ,
  .mem (du p (0+(a+o)*1) x) undef]
 .normal [0,1,8,9,10,11] [vL p 0 n cc,I a,I l,vP s 0,.int .u64 M,I (bU i 1)]:=cT
theorem ajW (p n cc a l s M q i r o b:Nat)(x y:ab):aY 207 [2,0,3] 0 99 [0,1,8,9,10,11] [vL p 0 n cc,I a,I l,vP s 0,.int .u64 M,I i]
 [.val (jk Nat.div .i64 l 4 (j5 ae .quo 3 O U (I l) (I 4))) (I q),
  bu (gu i (bU (bU a (ly q 2)) 1)) U,
  .call 256 [vP s 0] (.int .u64 r),
  .val (tC Nat.land .u64 r (J9 xC Int.sub .u64 M 1) (j5 ae .and 195 O O (.int .u64 r) (.int .u64 (J9 xC Int.sub .u64 M 1)))) (.int .u64 o),
  .val (pu ae [.int .u64 o] (convert 195 3 (.int .u64 o))) (I o),
  bu (th o l) U,
  .idx (bU a (cf o l)) n (a+b),
  .mem (aI p (0+(a+b)*1)) y,
  .idx i n i,
  .mem (aI p (0+i*1)) x,
  .idx i n i,
  fQ,
  .mem (du p (0+i*1) y) undef,
  .idx (bU a (cf o l)) n (a+b),
  fQ,
  .mem (du p (0+(a+b)*1) x) undef]
 .normal [0,1,8,9,10,11] [vL p 0 n cc,I a,I l,vP s 0,.int .u64 M,I (bU i 1)]:=cT
theorem ajX (p n cc a l s M q i:Nat):aY 207 [2,0,3] 0 99 [0,1,8,9,10,11] [vL p 0 n cc,I a,I l,vP s 0,.int .u64 M,I i]
 [.val (jk Nat.div .i64 l 4 (j5 ae .quo 3 O U (I l) (I 4))) (I q),
  bu (gu i (bU (bU a (ly q 2)) 1)) O]
 (.exit 0) [] []:=cT
theorem alE:jJ 207 4 []=U:=aM
theorem vo:jz 207 [2,0,3]:=aM
theorem anp:E9 (bX 207) 2=Z (.tmp 17,cj 207 [2,0],cj 207 [2,1]):=aM
theorem Sq:jz 207 [2,0]:=aM
def bsN (a l M i0:Nat)(st:UInt64×Array El):Nat->UInt64×Array El
 |0=>st
 |t+1=>Sort.breakStep a l M (bsN a l M i0 st t) (i0+t)
theorem RK {tm:Tm}{a b c d v:ab}{i j k l:Nat}(h:bj [i,j,k,l] tm=[a,b,c,v]):di l tm=v:=by
 simp only[bj,List.map_cons,List.map_nil,List.cons.injEq,and_true]at h;exact h.2.2.2
section
variable {K:fE}{B:Nat->Prop}{p n cc:Nat}{rest:List ab}{m m':Mem}{d:Array El}
theorem ark (h:Sv B p n rest m d)(hn:n<65536){a b:Nat}(h8:a+8<=b)(N:b<=n)(hB:∀b,B b->b<m.next):
  ∃m',Ev K 207 [vL p 0 n cc,I a,I b,fR] m (.tuple #[]) m'/\Kp m m' (λy=>y=p)/\Sv B p n rest m' (Sort.breakPatterns d a b):=by
 obtain⟨l,hl⟩:∃l,l=b-a:=⟨_,rfl⟩;have e1:cf b a=((l:Nat):Int):=by rw[hl];exact lJ ai
 obtain⟨q,hq⟩:∃q,q=l / 4:=⟨_,rfl⟩;have Q:∀x,jk Nat.div .i64 l 4 x=Z (I q):=λx=>by rw[hq];exact VL ai (j:=4) ai
 obtain⟨M,P⟩:∃M,M=1<<<Sort.bitsLen l:=⟨_,rfl⟩;have hM1:0<M:=by rw[P,Nat.one_shiftLeft];exact Nat.two_pow_pos _
 have hM2:M<=2*l:=by
  obtain⟨j,hj⟩:∃j,Sort.bitsLen l=j+1:=by
   have :¬Sort.bitsLen l<=0:=λh=>by have :=(Sort.bitsLen_le_iff l 0).1 h;omega
   exact⟨Sort.bitsLen l-1,ai⟩
  have :¬Sort.bitsLen l<=j:=ai;rw[Sort.bitsLen_le_iff]at this;rw[P,Nat.one_shiftLeft,hj,Nat.pow_succ];omega
 have aqP:Sort.breakPatterns d a b=(bsN a l M (a+q*2-1) (UInt64.ofNat l,d) 3).2:=by
  unfold Sort.breakPatterns;simp only[<-hl,<-hq,<-P];rw[bh ai];rfl
 obtain⟨R,w0,D⟩:=aU (K:=K) (m:=m) (m':=m) (tm:=entry [vL p 0 n cc,I a,I b,fR]) (ajZ p n cc a b) rfl .nil;have z0:=RK (d:=undef) D;obtain⟨m1,ea,oa,X,na,_⟩:=bz h.gd [vW 0];obtain⟨s,hs⟩:∃s,s=m.next:=⟨_,rfl⟩;rw[<-hs]at ea oa;have dB:=h.ob.lt;have wa:Own m1 s:=h.gd.own X ai;obtain⟨V,C,ob,W⟩:=gj (vW l) oa (wa.may 0 1) dA;have s1:=h.ext X;have c:s≠p:=ai;have z:¬B s:=λN=>by have :=hB _ N;omega
 have s2:=s1.ahz W c z;have k2:Kp m V (λy=>y=p):=X.sC.trans W λb N e=>by omega
 have e0':bj [0,1,8] R=[vL p 0 n cc,I a,I l]:=by
  simp only[bj,List.map_cons,List.map_nil,List.cons.injEq,and_true]at D⊢;exact⟨D.1,D.2.1,by rw[D.2.2.1,e1]⟩
 obtain⟨t1,w1,g1⟩:=aU (K:=K) (ajY p n cc a l M q s) e0' (.val (cvW ai (.inr rfl))<|.mem ea<|.mem C<|.call (by rw[P];exact aq9 ai)<|.val (Q _) .nil);have f2:cf (bU a (ly q 2)) 1=((a+q*2-1:Nat):Int):=by rw[show ly q 2=((q*2:Nat):Int)from Lw (j:=2) ai,oU ai];exact lJ (j:=1) ai
 have f3:bU (bU a (ly q 2)) 1=((a+q*2+1:Nat):Int):=by rw[show ly q 2=((q*2:Nat):Int)from Lw (j:=2) ai,oU ai,eQ]
 rw[f2]at g1;obtain⟨e,t3,k,he,hx,rfl,r⟩:=eN (K:=K) (nt:=fp 207) (a:=cj 207 [2,0,3]) 3
  (Inv:=λt tm m'=>bj [0,1,8,9,10,11] tm=[vL p 0 n cc,I a,I l,vP s 0,vW M,I (a+q*2-1+t:Nat)]/\Kp m m' (λy=>y=p)/\Sv B p n rest m' (bsN a l M (a+q*2-1) (UInt64.ofNat l,d) t).2/\Obj m' s 0 [vW ((bsN a l M (a+q*2-1) (UInt64.ofNat l,d) t).1.toNat:Int)]/\Own m' s)
  (dm:=λe tm m'=>e=.exit 0/\Kp m m' (λy=>y=p)/\Sv B p n rest m' (Sort.breakPatterns d a b))
  (by
   rintro t tm k ht ⟨A,k3,G,o3,F⟩
   left
   generalize fA:bsN a l M (a+q*2-1) (UInt64.ofNat l,d) t=st at*;obtain⟨m4,e4,H,o4⟩:=aq8 (K:=K) G.gd o3 F;have f:=G.ahz H c z;have g4:=f.gd;obtain⟨i,L⟩:∃i,i=a+q*2-1+t:=⟨_,rfl⟩;rw[<-L]at A;have SR:bsN a l M (a+q*2-1) (UInt64.ofNat l,d) (t+1)=Sort.breakStep a l M st i:=by rw[L,<-fA];rfl
   rw[SR];obtain⟨o,J⟩:∃o,o=(Sort.xorNext st.1).toNat&&&(M-1):=⟨_,rfl⟩;have ho1:o<=M-1:=by rw[J];exact Nat.and_le_right
   have ev:tC Nat.land .u64 ((Sort.xorNext st.1).toNat:Int) (J9 xC Int.sub .u64 M 1) (j5 ae .and 195 O O (vW ((Sort.xorNext st.1).toNat:Int)) (vW (J9 xC Int.sub .u64 M 1)))=Z (vW o):=by
    rw[an7 hM1 ai,arE (Sort.xorNext st.1).toNat_lt ai,J]
   have Xb:Kp m m4 (λy=>y=p):=k3.trans H λb N e=>by omega
   have c1:(.bool (gu i (bU (bU a (ly q 2)) 1)):ab)=.bool U:=by rw[f3];exact dT gK
   by_cases SV:l<=o
   .obtain⟨m5,T,e5,g5,e6,g,S⟩:=f.swap (i:=i) (j:=a+(o-l));have eo:bU a (cf o l)=((a+(o-l):Nat):Int):=by rw[lJ SV,oU]
    obtain⟨w,E,u⟩:=aL (K:=K) vo (ajW p n cc a l s M q i (Sort.xorNext st.1).toNat o (o-l) st.2[i]!.1 st.2[a+(o-l)]!.1) A (.val (Q _)<|.cond c1<|.call e4<|.val ev<|.val (cvI ai)<|.cond (dT zR)<|.idx eo ai<|.mem f.ld<|.idx rfl ai<|.mem f.ld<|.idx rfl ai<|.mem (aJ fS)<|.mem e5<|.idx eo ai<|.mem (aJ fS)<|.mem e6<|.nil);rw[eQ,L]at u;have C:Sort.breakStep a l M st i=(Sort.xorNext st.1,Sort.swp st.2 i (a+(o-l))):=by
     unfold Sort.breakStep;simp only[<-J];rw[bh SV]
    rw[C];exact⟨w,T,E,u,Xb.trans g λ_ _ h=>h,S,o4.ext g c,(F.ext H).ext g⟩
   .obtain⟨m5,T,e5,g5,e6,g,S⟩:=f.swap (i:=i) (j:=a+o);obtain⟨w,E,u⟩:=aL (K:=K) vo (ajV p n cc a l s M q i (Sort.xorNext st.1).toNat o st.2[i]!.1 st.2[a+o]!.1) A (.val (Q _)<|.cond c1<|.call e4<|.val ev<|.val (cvI ai)<|.cond (dF zR)<|.idx oU ai<|.mem f.ld<|.idx rfl ai<|.mem f.ld<|.idx rfl ai<|.mem (aJ fS)<|.mem e5<|.idx oU ai<|.mem (aJ fS)<|.mem e6<|.nil);rw[eQ,L]at u;have C:Sort.breakStep a l M st i=(Sort.xorNext st.1,Sort.swp st.2 i (a+o)):=by
     unfold Sort.breakStep;simp only[<-J];rw[bH SV]
    rw[C];exact⟨w,T,E,u,Xb.trans g λ_ _ h=>h,S,o4.ext g c,(F.ext H).ext g⟩)
  (by
   rintro tm k ⟨A,k3,G,o3,F⟩;obtain⟨w,E,u⟩:=aL (K:=K) (m:=k) (m':=k) vo (ajX p n cc a l s M q (a+q*2-1+3)) A (.val (Q _)<|.cond (by rw[f3];exact dF gK) .nil);exact⟨_,w,k,iq,E,rfl,k3,by rw[aqP];exact G⟩)
  (tm:=t1) (m:=V) ⟨g1,k2,s2,by show Obj V s 0 [vW (((UInt64.ofNat l).toNat:Nat):Int)];rw[UInt64.toNat_ofNat_of_lt' (by show l<2^64;omega)];exact ob,wa.ext W⟩ ai
 have hc:dG R (.tmp 17)=.bool U:=by
  show di 17 R=_
  rw[z0,e1];exact dT (zR (j:=8))
 exact⟨k,dE (vs:=[]) alE (aC.cut w0 (aC.cond (v:=U) anp hc ((aC.cut w1 (aC.fC hx (aC.done (af aM)))).code Sq) aM aM (aC.done (af aM)))) (.inl rfl) rfl,r⟩
end
theorem tT {K:fE}{nt:Nat}{c:Code}{B:Nat->Prop}{p n:Nat}{rest:List ab}{d:Array El}{is:List Nat}{ex:Exit}(V:Nat->List ab)(o:Nat->Bool)(next st g:Nat->Nat)(w:ex≠ .normal)
  (E:∀i tm m,o i=U->bj is tm=V i->Sv B p n rest m d->∃f b,xr K nt c ⟨tm,m,[]⟩ .normal ⟨f,b,[]⟩/\bj is f=V (next i)/\Kp m b eK/\Sv B p n rest b d)
  (D:∀i tm m,o i=O->bj is tm=V i->Sv B p n rest m d->∃f b,xr K nt c ⟨tm,m,[]⟩ ex ⟨f,b,[]⟩/\bj is f=V i/\Kp m b eK/\Sv B p n rest b d)
  (s1:∀i,o i=U->st i=st (next i)/\g (next i)<g i)(C:∀i,o i=O->st i=i){i:Nat}(hm:g i<100000000000000){tm:Tm}{m:Mem}(q:bj is tm=V i)(h:Sv B p n rest m d):
  ∃f b,uT K nt c 100000000000000 ⟨tm,m,[]⟩ ex ⟨f,b,[]⟩/\bj is f=V (st i)/\Kp m b eK/\Sv B p n rest b d:=by
 obtain⟨e,f,b,H,l,rfl,r⟩:=j7 (K:=K) (nt:=nt) (a:=c)
  (Inv:=λk tm b=>∃j,k=g j/\st j=st i/\bj is tm=V j/\Kp m b eK/\Sv B p n rest b d)
  (dm:=λe tm b=>e=ex/\bj is tm=V (st i)/\Kp m b eK/\Sv B p n rest b d)
  (by
   rintro k tm z ⟨j,rfl,A,q,k1,y⟩;cases hb:o j with
   |true=>
    obtain⟨s,u,l,x,v,t⟩:=E j tm z hb q y;obtain⟨G,F⟩:=s1 j hb;exact .inl ⟨_,s,u,F,l,_,rfl,G▸A,x,k1.aX v,t⟩
   |false=>
    obtain⟨s,u,l,x,v,t⟩:=D j tm z hb q y;exact .inr ⟨_,s,u,w,l,rfl,by rw[<-A,C j hb];exact x,k1.aX v,t⟩)
  (n:=g i) (k:=100000000000000) (tm:=tm) (m:=m) ⟨i,rfl,rfl,q,.refl _ _,h⟩ hm
 exact⟨f,b,l,r⟩
theorem DF {d:Array El}{b:Nat}:∀(k i:Nat),b-i=k->i<=Sort.scanSorted cS d b i/\(i<=b->Sort.scanSorted cS d b i<=b)
 |0,i,h=>by
  rw[Sort.scanSorted,bH (by simp;omega)];exact⟨aj _,id⟩
 |k+1,i,h=>by
  rw[Sort.scanSorted]
  split
  .obtain⟨c,a⟩:=DF (d:=d) (b:=b) k (i+1) ai;exact⟨ai,λ_=>a ai⟩
  .exact⟨aj _,id⟩
theorem ajG (p n cc a b k j:Nat)(x y:ab)(c:Int):aY 210 [3,2,0] 0 99 [0,1,2,3,9,10] [vL p 0 n cc,I a,I b,fR,I (k+1:Nat),I j]
 ((rp 4 (.bool (dx (k+1:Nat) b)) U (.idx (k+1:Nat) n (k+1)::bu (dx (k+1:Nat) b) U::.mem (aI p (0+(k+1)*1)) x::(rp 4 (.bool (dx (k+1:Nat) b)) U (.idx (cf (k+1:Nat) 1) n k::bu (dx (k+1:Nat) b) U::.mem (aI p (0+k*1)) y::fQ::bu (dx (k+1:Nat) b) U::.bZ fR [x,y] (I c)::(rp 3 (.bool (dx (k+1:Nat) b)) U ([bu (!(dx c 0)) U])))))))
 .normal [0,1,2,3,9,10] [vL p 0 n cc,I a,I b,fR,I (bU (k+1:Nat) 1),I j]:=cT
theorem ajF (p n cc a b k j:Nat)(x y:ab)(c:Int):aY 210 [3,2,0] 0 99 [0,1,2,3,9,10] [vL p 0 n cc,I a,I b,fR,I (k+1:Nat),I j]
 ((rp 4 (.bool (dx (k+1:Nat) b)) U (.idx (k+1:Nat) n (k+1)::bu (dx (k+1:Nat) b) U::.mem (aI p (0+(k+1)*1)) x::(rp 4 (.bool (dx (k+1:Nat) b)) U (.idx (cf (k+1:Nat) 1) n k::bu (dx (k+1:Nat) b) U::.mem (aI p (0+k*1)) y::fQ::bu (dx (k+1:Nat) b) U::.bZ fR [x,y] (I c)::(rp 3 (.bool (dx (k+1:Nat) b)) U ([bu (!(dx c 0)) O])))))))
 (.exit 2) [0,1,2,3,9,10] [vL p 0 n cc,I a,I b,fR,I (k+1:Nat),I j]:=cT
theorem ajE (p n cc a b k j:Nat):aY 210 [3,2,0] 0 99 [0,1,2,3,9,10] [vL p 0 n cc,I a,I b,fR,I (k+1:Nat),I j]
 ((rp 10 (.bool (dx (k+1:Nat) b)) O (fQ::(rp 4 (.bool (dx (k+1:Nat) b)) O ([jT])))))
 (.exit 2) [0,1,2,3,9,10] [vL p 0 n cc,I a,I b,fR,I (k+1:Nat),I j]:=cT
theorem ad0:jJ 210 4 [8]=U:=aM
theorem Sp:(dq (bX 210)).length<=99:=af aM
theorem acj:jY (bX 210) 3=Z (0,(cj 210 [3])):=aM
theorem CI:jz 210 [3]:=aM
theorem aco:mm (fp 210) (bX 210) (cj 210 [3]) 3 0=U:=aM
theorem vm:jz 210 [3,2,0]:=aM
theorem pM:jz 210 [3,2,7,0,1]:=aM
theorem pL:jz 210 [3,2,9,0,1]:=aM
theorem AV:jD (cj 210 [3]) 2=Z (1,(cj 210 [3,2])):=aM
theorem AR:kT (fp 210) (cj 210 [3]) (cj 210 [3,2]) 2 1=U:=aM
section
variable {K:fE}{B:Nat->Prop}{p n cc:Nat}{rest:List ab}{m m':Mem}{d:Array El}
theorem i210 (h:Sv B p n rest m d)(E:n<90000){a b i j:Nat}(F:b<=n){tm:Tm}(l:bj [0,1,2,3,9,10] tm=[vL p 0 n cc,I a,I b,fR,I ((i+1:Nat):Int),I j]):
  ∃y m',uT K (fp 210) (cj 210 [3,2,0]) 100000000000000 ⟨tm,m,[]⟩ (.exit 2) ⟨y,m',[]⟩/\bj [0,1,2,3,9,10] y=[vL p 0 n cc,I a,I b,fR,I (Sort.scanSorted cS d b (i+1):Int),I j]/\Kp m m' eK/\Sv B p n rest m' d:=by
 obtain⟨t,m',e,A,z⟩:=tT (K:=K) (nt:=fp 210) (c:=cj 210 [3,2,0]) (ex:=.exit 2) (is:=[0,1,2,3,9,10]) (λk=>[vL p 0 n cc,I a,I b,fR,I (k+1:Nat),I j]) (λk=>decide (k+1<b)&&!cS d[k+1]! d[k]!) (·+1) (λk=>Sort.scanSorted cS d b (k+1)-1) (λk=>b-k) iq
  (by
   intro k tm m f l h;simp only[ag,iU,Bool.not_eq_true']at f;obtain⟨c,u,x,v,s,w⟩:=h.cmp (K:=K) (i:=k+1) (j:=k);have g:=h.gd;obtain⟨q,r,o⟩:=aL vm (ajG p n cc a b k j d[k+1]!.1 d[k]!.1 c) l (.rp (dT nX)<|.idx rfl ai<|.cond (dT nX)<|.mem h.ld<|.rp (dT nX)<|.idx sO ai<|.cond (dT nX)<|.mem h.ld<|.mem (aJ fS)<|.cond (dT nX)<|.bZ x<|.rp (dT nX)<|.cond (bT (by rw[w,f.2];rfl))<|.nil);rw[eQ]at o;exact⟨q,u,r,o,v,s⟩)
  (by
   intro k tm m f l h;have g:=h.gd
   by_cases D:k+1<b
   .obtain⟨c,u,x,v,s,w⟩:=h.cmp (K:=K) (i:=k+1) (j:=k);have C:cS d[k+1]! d[k]! =U:=by simpa[D]using f
    obtain⟨q,r,o⟩:=aL vm (ajF p n cc a b k j d[k+1]!.1 d[k]!.1 c) l (.rp (dT nX)<|.idx rfl ai<|.cond (dT nX)<|.mem h.ld<|.rp (dT nX)<|.idx sO ai<|.cond (dT nX)<|.mem h.ld<|.mem (aJ fS)<|.cond (dT nX)<|.bZ x<|.rp (dT nX)<|.cond (bF (by rw[w,C];rfl))<|.nil);exact⟨q,u,r,o,v,s⟩
   .obtain⟨q,r,o⟩:=aL (K:=K) (m:=m) (m':=m) vm (ajE p n cc a b k j) l (.rp (dF nX)<|.mem (aJ fS)<|.rp (dF nX)<|.cond rfl<|.nil);exact⟨q,m,r,o,.refl _ _,h⟩)
  (by
   intro k f;simp only[ag,iU]at f;refine⟨?_,ai⟩
   show Sort.scanSorted cS d b (k+1)-1=Sort.scanSorted cS d b (k+1+1)-1
   conv=>lhs;rw[Sort.scanSorted]
   rw[bh (by simpa using f)])
  (by
   intro k f
   show Sort.scanSorted cS d b (k+1)-1=k
   rw[Sort.scanSorted,bH (by simpa using f)];rfl)
  (i:=i) ai l h
 refine⟨t,m',e,?_,z⟩;have :Sort.scanSorted cS d b (i+1)-1+1=Sort.scanSorted cS d b (i+1):=by have :=(DF (d:=d) (b:=b) _ (i+1) rfl).1;omega
 rw[<-this];exact A
end
theorem ajz (p n cc a b i j k:Nat)(x y:ab)(c:Int):aY 210 [3,2,7,0,1] 0 99 [0,1,2,3,9,10,11] [vL p 0 n cc,I a,I b,fR,I i,I j,I (k+1:Nat)]
 [bu (th (k+1:Nat) 1) U,
  .idx (k+1:Nat) n (k+1),
  .mem (aI p (0+(k+1)*1)) x,
  .idx (cf (k+1:Nat) 1) n k,
  .mem (aI p (0+k*1)) y,
  fQ,
  .bZ fR [x,y] (I c),
  bu (!(dx c 0)) O,
  .idx (cf (k+1:Nat) 1) n k,
  .mem (aI p (0+k*1)) y,
  .idx (k+1:Nat) n (k+1),
  .mem (aI p (0+(k+1)*1)) x,
  .idx (k+1:Nat) n (k+1),
  fQ,
  .mem (du p (0+(k+1)*1) y) undef,
  .idx (cf (k+1:Nat) 1) n k,
  fQ,
  .mem (du p (0+k*1) x) undef]
 .normal [0,1,2,3,9,10,11] [vL p 0 n cc,I a,I b,fR,I i,I j,I (cf (k+1:Nat) 1)]:=cT
theorem ajy (p n cc a b i j k:Nat)(x y:ab)(c:Int):aY 210 [3,2,7,0,1] 0 99 [0,1,2,3,9,10,11] [vL p 0 n cc,I a,I b,fR,I i,I j,I (k+1:Nat)]
 [bu (th (k+1:Nat) 1) U,
  .idx (k+1:Nat) n (k+1),
  .mem (aI p (0+(k+1)*1)) x,
  .idx (cf (k+1:Nat) 1) n k,
  .mem (aI p (0+k*1)) y,
  fQ,
  .bZ fR [x,y] (I c),
  bu (!(dx c 0)) U]
 (.exit 4) [0,1,2,3,9,10] [vL p 0 n cc,I a,I b,fR,I i,I j]:=cT
theorem ajx (p n cc a b i j:Nat):aY 210 [3,2,7,0,1] 0 99 [0,1,2,3,9,10,11] [vL p 0 n cc,I a,I b,fR,I i,I j,I 0]
 [jT]
 (.exit 4) [0,1,2,3,9,10] [vL p 0 n cc,I a,I b,fR,I i,I j]:=cT
theorem ajw (p n cc a b i j k:Nat)(x y:ab)(c:Int):aY 210 [3,2,9,0,1] 0 99 [0,1,2,3,9,10,12] [vL p 0 n cc,I a,I b,fR,I i,I j,I (k+1:Nat)]
 [bu (dx (k+1:Nat) b) U,
  .idx (k+1:Nat) n (k+1),
  .mem (aI p (0+(k+1)*1)) x,
  .idx (cf (k+1:Nat) 1) n k,
  .mem (aI p (0+k*1)) y,
  fQ,
  .bZ fR [x,y] (I c),
  bu (!(dx c 0)) O,
  .idx (cf (k+1:Nat) 1) n k,
  .mem (aI p (0+k*1)) y,
  .idx (k+1:Nat) n (k+1),
  .mem (aI p (0+(k+1)*1)) x,
  .idx (k+1:Nat) n (k+1),
  fQ,
  .mem (du p (0+(k+1)*1) y) undef,
  .idx (cf (k+1:Nat) 1) n k,
  fQ,
  .mem (du p (0+k*1) x) undef]
 .normal [0,1,2,3,9,10,12] [vL p 0 n cc,I a,I b,fR,I i,I j,I (bU (k+1:Nat) 1)]:=cT
theorem ajv (p n cc a b i j k:Nat)(x y:ab)(c:Int):aY 210 [3,2,9,0,1] 0 99 [0,1,2,3,9,10,12] [vL p 0 n cc,I a,I b,fR,I i,I j,I (k+1:Nat)]
 [bu (dx (k+1:Nat) b) U,
  .idx (k+1:Nat) n (k+1),
  .mem (aI p (0+(k+1)*1)) x,
  .idx (cf (k+1:Nat) 1) n k,
  .mem (aI p (0+k*1)) y,
  fQ,
  .bZ fR [x,y] (I c),
  bu (!(dx c 0)) U]
 (.exit 6) [0,1,2,3,9,10] [vL p 0 n cc,I a,I b,fR,I i,I j]:=cT
theorem aju (p n cc a b i j k:Nat):aY 210 [3,2,9,0,1] 0 99 [0,1,2,3,9,10,12] [vL p 0 n cc,I a,I b,fR,I i,I j,I (k+1:Nat)]
 [bu (dx (k+1:Nat) b) O]
 (.exit 6) [0,1,2,3,9,10] [vL p 0 n cc,I a,I b,fR,I i,I j]:=cT
section
variable {K:fE}{B:Nat->Prop}{p n cc:Nat}{rest:List ab}{m m':Mem}{d:Array El}
theorem apC (h:Sv B p n rest m d)(R:n<90000){a b i j k:Nat}(C:k<n){tm:Tm}(u:bj [0,1,2,3,9,10,11] tm=[vL p 0 n cc,I a,I b,fR,I i,I j,I k]):
  ∃w m',uT K (fp 210) (cj 210 [3,2,7,0,1]) 100000000000000 ⟨tm,m,[]⟩ (.exit 4) ⟨w,m',[]⟩/\bj [0,1,2,3,9,10] w=[vL p 0 n cc,I a,I b,fR,I i,I j]/\Kp m m' (λy=>y=p)/\Sv B p n rest m' (Sort.shiftDown cS k d):=by
 obtain⟨e,w,m',S,M,rfl,r⟩:=j7 (K:=K) (nt:=fp 210) (a:=cj 210 [3,2,7,0,1])
  (Inv:=λt tm m'=>∃f,t<n/\bj [0,1,2,3,9,10,11] tm=[vL p 0 n cc,I a,I b,fR,I i,I j,I t]/\Kp m m' (λy=>y=p)/\Sv B p n rest m' f/\Sort.shiftDown cS t f=Sort.shiftDown cS k d)
  (dm:=λe tm m'=>e=.exit 4/\bj [0,1,2,3,9,10] tm=[vL p 0 n cc,I a,I b,fR,I i,I j]/\Kp m m' (λy=>y=p)/\Sv B p n rest m' (Sort.shiftDown cS k d))
  (by
   rintro t tm x ⟨f,C,u,k1,g,z⟩;cases t with
   |zero=>
    obtain⟨q,v,o⟩:=aL (K:=K) (m:=x) (m':=x) pM (ajx p n cc a b i j) u (.cond rfl<|.nil);exact .inr ⟨_,q,x,iq,v,rfl,o,k1,z▸g⟩
   |succ k=>
    have W:=g.gd;obtain⟨c,H,E,L,s,D⟩:=g.cmp (K:=K) (i:=k+1) (j:=k);have V:=s.gd;have A:=k1.aX L
    by_cases l:cS f[k+1]! f[k]! =U
    .obtain⟨Q,G,P,T,N,J,F⟩:=s.swap (i:=k+1) (j:=k);obtain⟨q,v,o⟩:=aL pM (ajz p n cc a b i j k f[k+1]!.1 f[k]!.1 c) u (.cond (dT (zR (j:=1)))<|.idx rfl ai<|.mem g.ld<|.idx sO ai<|.mem g.ld<|.mem (aJ fS)<|.bZ E<|.cond (bF (by rw[D,l];rfl))<|.idx sO ai<|.mem s.ld<|.idx rfl ai<|.mem s.ld<|.idx rfl ai<|.mem (aJ fS)<|.mem P<|.idx sO ai<|.mem (aJ fS)<|.mem N<|.nil);rw[sO]at o;refine .inl ⟨k,q,G,ai,v,_,ai,o,A.trans J λ_ _ h=>h,F,?_⟩;rw[<-z,Sort.shiftDown.eq_2,bH (by simp[l])]
    .have l:=Bool.eq_false_iff.2 l;obtain⟨q,v,o⟩:=aL pM (ajy p n cc a b i j k f[k+1]!.1 f[k]!.1 c) u (.cond (dT (zR (j:=1)))<|.idx rfl ai<|.mem g.ld<|.idx sO ai<|.mem g.ld<|.mem (aJ fS)<|.bZ E<|.cond (bT (by rw[D,l];rfl))<|.nil);refine .inr ⟨_,q,H,iq,v,rfl,o,A,?_⟩;rw[<-z,Sort.shiftDown.eq_2,bh (by simp[l])];exact s)
  (n:=k) (k:=100000000000000) ⟨d,C,u,.refl _ _,h,rfl⟩ ai
 exact⟨w,m',M,r⟩
theorem apB (h:Sv B p n rest m d)(S:n<90000){a b i j k:Nat}(T:0<k)(W:b<=n){tm:Tm}(u:bj [0,1,2,3,9,10,12] tm=[vL p 0 n cc,I a,I b,fR,I i,I j,I k]):
  ∃w m',uT K (fp 210) (cj 210 [3,2,9,0,1]) 100000000000000 ⟨tm,m,[]⟩ (.exit 6) ⟨w,m',[]⟩/\bj [0,1,2,3,9,10] w=[vL p 0 n cc,I a,I b,fR,I i,I j]/\Kp m m' (λy=>y=p)/\Sv B p n rest m' (Sort.shiftUp cS b k d):=by
 obtain⟨e,w,m',V,N,rfl,r⟩:=j7 (K:=K) (nt:=fp 210) (a:=cj 210 [3,2,9,0,1])
  (Inv:=λx tm m'=>∃(g:Array El) (f:Nat),x=b-(f+1)/\bj [0,1,2,3,9,10,12] tm=[vL p 0 n cc,I a,I b,fR,I i,I j,I (f+1:Nat)]/\Kp m m' (λy=>y=p)/\Sv B p n rest m' g/\Sort.shiftUp cS b (f+1) g=Sort.shiftUp cS b k d)
  (dm:=λe tm m'=>e=.exit 6/\bj [0,1,2,3,9,10] tm=[vL p 0 n cc,I a,I b,fR,I i,I j]/\Kp m m' (λy=>y=p)/\Sv B p n rest m' (Sort.shiftUp cS b k d))
  (by
   rintro x tm z ⟨g,f,rfl,u,k1,l,A⟩
   by_cases C:f+1<b
   .have g1:=l.gd;obtain⟨c,J,F,M,t,E⟩:=l.cmp (K:=K) (i:=f+1) (j:=f);have g2:=t.gd;have D:=k1.aX M
    by_cases o:cS g[f+1]! g[f]! =U
    .obtain⟨R,H,Q,X,P,L,G⟩:=t.swap (i:=f+1) (j:=f);obtain⟨s,v,q⟩:=aL pL (ajw p n cc a b i j f g[f+1]!.1 g[f]!.1 c) u (.cond (dT nX)<|.idx rfl ai<|.mem l.ld<|.idx sO ai<|.mem l.ld<|.mem (aJ fS)<|.bZ F<|.cond (bF (by rw[E,o];rfl))<|.idx sO ai<|.mem t.ld<|.idx rfl ai<|.mem t.ld<|.idx rfl ai<|.mem (aJ fS)<|.mem Q<|.idx sO ai<|.mem (aJ fS)<|.mem P<|.nil);rw[eQ]at q;refine .inl ⟨_,s,H,ai,v,_,f+1,rfl,q,D.trans L λ_ _ h=>h,G,?_⟩;rw[<-A]
     conv=>rhs;rw[Sort.shiftUp]
     rw[bh C,bH (by simp[o])];rfl
    .have o:=Bool.eq_false_iff.2 o;obtain⟨s,v,q⟩:=aL pL (ajv p n cc a b i j f g[f+1]!.1 g[f]!.1 c) u (.cond (dT nX)<|.idx rfl ai<|.mem l.ld<|.idx sO ai<|.mem l.ld<|.mem (aJ fS)<|.bZ F<|.cond (bT (by rw[E,o];rfl))<|.nil);refine .inr ⟨_,s,J,iq,v,rfl,q,D,?_⟩;rw[<-A,Sort.shiftUp,bh C,bh (by simp[o])];exact t
   .obtain⟨s,v,q⟩:=aL (K:=K) (m:=z) (m':=z) pL (aju p n cc a b i j f) u (.cond (dF nX)<|.nil);refine .inr ⟨_,s,z,iq,v,rfl,q,k1,?_⟩;rw[<-A,Sort.shiftUp,bH C];exact l)
  (n:=b-k) (k:=100000000000000) ⟨d,k-1,ai,by rw[show k-1+1=k by omega];exact u,.refl _ _,h,by rw[show k-1+1=k by omega]⟩ ai
 exact⟨w,m',N,r⟩
end
theorem ajK (p n cc a b:Nat):cV 210 0 3 [0,1,2,3] [vL p 0 n cc,I a,I b,fR]
 []
 .normal [0,1,2,3,9,10] [vL p 0 n cc,I a,I b,fR,I (bU a 1),I 0]:=cT
theorem ajJ (p n cc a b i j:Nat):aY 210 [3] 0 2 [0,1,2,3,9,10] [vL p 0 n cc,I a,I b,fR,I i,I j]
 [bu (dx j 5) U]
 .normal [0,1,2,3,9,10] [vL p 0 n cc,I a,I b,fR,I i,I j]:=cT
theorem ajI (p n cc a b i j:Nat):aY 210 [3] 0 99 [0,1,2,3,9,10] [vL p 0 n cc,I a,I b,fR,I i,I j]
 [bu (dx j 5) O]
 (.exit 0) [] []:=cT
theorem ajH (p n cc a b i j:Nat):aY 210 [3] 3 99 [0,1,2,3,9,10] [vL p 0 n cc,I a,I b,fR,I i,I j]
 []
 .normal [0,1,2,3,9,10] [vL p 0 n cc,I a,I b,fR,I i,I (bU j 1)]:=cT
theorem ajr (p n cc a b i j:Nat):aY 210 [3,2] 1 99 [0,1,2,3,9,10] [vL p 0 n cc,I a,I b,fR,I i,I j]
 [bu (rk i b) U]
 .ret [8] [.bool U]:=cT
theorem ajq (p n cc a b i j:Nat):aY 210 [3,2] 1 99 [0,1,2,3,9,10] [vL p 0 n cc,I a,I b,fR,I i,I j]
 [bu (rk i b) O,
  bu (dx (cf b a) 50) U]
 .ret [8] [.bool O]:=cT
theorem ajD (p n cc a b j k:Nat)(x y:ab):aY 210 [3,2] 1 7 [0,1,2,3,9,10] [vL p 0 n cc,I a,I b,fR,I (k+1:Nat),I j]
 [bu (rk (k+1:Nat) b) O,
  bu (dx (cf b a) 50) O,
  .idx (cf (k+1:Nat) 1) n k,
  .mem (aI p (0+k*1)) y,
  .idx (k+1:Nat) n (k+1),
  .mem (aI p (0+(k+1)*1)) x,
  .idx (k+1:Nat) n (k+1),
  fQ,
  .mem (du p (0+(k+1)*1) y) undef,
  .idx (cf (k+1:Nat) 1) n k,
  fQ,
  .mem (du p (0+k*1) x) undef]
 .normal [0,1,2,3,9,10,65] [vL p 0 n cc,I a,I b,fR,I (k+1:Nat),I j,.bool (th (cf (k+1:Nat) a) 2)]:=cT
theorem ajC (p n cc a b i j:Nat)(h:Bool):aY 210 [3,2] 7 8 [0,1,2,3,9,10,65] [vL p 0 n cc,I a,I b,fR,I i,I j,.bool h]
 [bu h O]
 .normal [0,1,2,3,9,10] [vL p 0 n cc,I a,I b,fR,I i,I j]:=cT
theorem ajB (p n cc a b i j:Nat):aY 210 [3,2,7,0] 0 1 [0,1,2,3,9,10] [vL p 0 n cc,I a,I b,fR,I i,I j]
 []
 .normal [0,1,2,3,9,10,11] [vL p 0 n cc,I a,I b,fR,I i,I j,I (cf i 1)]:=cT
theorem ajA (p n cc a b i j:Nat):aY 210 [3,2] 8 9 [0,1,2,3,9,10] [vL p 0 n cc,I a,I b,fR,I i,I j]
 []
 .normal [0,1,2,3,9,10,104] [vL p 0 n cc,I a,I b,fR,I i,I j,.bool (th (cf b i) 2)]:=cT
theorem ajt (p n cc a b i j:Nat):aY 210 [3,2,9,0] 0 1 [0,1,2,3,9,10] [vL p 0 n cc,I a,I b,fR,I i,I j]
 []
 .normal [0,1,2,3,9,10,12] [vL p 0 n cc,I a,I b,fR,I i,I j,I (bU i 1)]:=cT
theorem ajs (p n cc a b i j:Nat)(h:Bool):aY 210 [3,2] 9 99 [0,1,2,3,9,10,104] [vL p 0 n cc,I a,I b,fR,I i,I j,.bool h]
 [bu h O]
 .normal [0,1,2,3,9,10] [vL p 0 n cc,I a,I b,fR,I i,I j]:=cT
theorem ajp:cV 210 4 99 [] []
 []
 .ret [8] [.bool O]:=cT
theorem ahR:E9 (cj 210 [3,2]) 7=Z (.tmp 65,cj 210 [3,2,7,0],cj 210 [3,2,7,1]):=aM
theorem ahQ:E9 (cj 210 [3,2]) 9=Z (.tmp 104,cj 210 [3,2,9,0],cj 210 [3,2,9,1]):=aM
theorem agm:jz 210 [3,2,7,0]:=aM
theorem agl:jz 210 [3,2,9,0]:=aM
theorem Hy {is:List Nat}{vs:List ab}{tm:Tm}(h:bj is tm=vs){i k:Nat}{v:ab}(b:is[i]?=Z k)(a:vs[i]?=Z v):di k tm=v:=by
 subst h;simp only[bj,List.getElem?_map,b,dk,ah]at a;exact a
section
variable {K:fE}{B:Nat->Prop}{p n cc:Nat}{rest:List ab}{m m':Mem}{d:Array El}
theorem apy (h:Sv B p n rest m d)(A:n<90000){a b i j:Nat}(l:a<=i)(E:0<i)(hi:i<n){tm:Tm}(c:bj [0,1,2,3,9,10,65] tm=[vL p 0 n cc,I a,I b,fR,I i,I j,.bool (th (cf i a) 2)]):
  ∃r m',(∀e st,aC K (fp 210) (cj 210 [3,2]) 8 ⟨r,m',[]⟩ e st->aC K (fp 210) (cj 210 [3,2]) 7 ⟨tm,m,[]⟩ e st)/\bj [0,1,2,3,9,10] r=[vL p 0 n cc,I a,I b,fR,I i,I j]/\Kp m m' (λy=>y=p)/\Sv B p n rest m' (if i-a≥2 then Sort.shiftDown cS (i-1) d else d):=by
 rw[lJ l]at c;have z:=Hy c (i:=6) rfl rfl;have C:bj [0,1,2,3,9,10] tm=[vL p 0 n cc,I a,I b,fR,I i,I j]:=by
  simp only[bj,List.map_cons,List.map_nil,List.cons.injEq,and_true]at c⊢;exact⟨c.1,c.2.1,c.2.2.1,c.2.2.2.1,c.2.2.2.2.1,c.2.2.2.2.2.1⟩
 by_cases o:i-a≥2
 .obtain⟨q,g,f⟩:=aU (K:=K) (m:=m) (m':=m) (ajB p n cc a b i j) C .nil;rw[show cf i 1=((i-1:Nat):Int)from lJ (j:=1) ai]at f;obtain⟨s,u,x,D,w,t⟩:=apC (K:=K) h A ai f;rw[bh o];refine⟨s,u,λe st k=>aC.cond (v:=U) ahR ?_ ((aC.cut g (aC.fC x (aC.done (af aM)))).code agm) aM aM k,D,w,t⟩;exact z.trans (dT (zR (j:=2)))
 .rw[show th (i-a:Nat) 2=O from(zR (j:=2)).trans (yz o)]at c;obtain⟨q,g,f⟩:=aU (K:=K) (m:=m) (m':=m) (ajC p n cc a b i j O) c (.cond rfl .nil);rw[bH o];exact⟨q,m,λe st k=>aC.cut g k,f,.refl _ _,h⟩
theorem apx (h:Sv B p n rest m d)(w:n<90000){a b i j:Nat}(g:i<=b)(D:0<i)(x:b<=n){tm:Tm}(c:bj [0,1,2,3,9,10,104] tm=[vL p 0 n cc,I a,I b,fR,I i,I j,.bool (th (cf b i) 2)]):
  ∃o m',aC K (fp 210) (cj 210 [3,2]) 9 ⟨tm,m,[]⟩ .normal ⟨o,m',[]⟩/\bj [0,1,2,3,9,10] o=[vL p 0 n cc,I a,I b,fR,I i,I j]/\Kp m m' (λy=>y=p)/\Sv B p n rest m' (if b-i≥2 then Sort.shiftUp cS b (i+1) d else d):=by
 rw[lJ g]at c;have z:=Hy c (i:=6) rfl rfl;have A:bj [0,1,2,3,9,10] tm=[vL p 0 n cc,I a,I b,fR,I i,I j]:=by
  simp only[bj,List.map_cons,List.map_nil,List.cons.injEq,and_true]at c⊢;exact⟨c.1,c.2.1,c.2.2.1,c.2.2.2.1,c.2.2.2.2.1,c.2.2.2.2.2.1⟩
 by_cases k:b-i≥2
 .obtain⟨l,f,e⟩:=aU (K:=K) (m:=m) (m':=m) (ajt p n cc a b i j) A .nil;rw[eQ]at e;obtain⟨q,s,u,C,t,r⟩:=apB (K:=K) h w ai x e;rw[bh k];refine⟨q,s,aC.cond (v:=U) ahQ ?_ ((aC.cut f (aC.fC u (aC.done (af aM)))).code agl) aM aM (aC.done (af aM)),C,t,r⟩;exact z.trans (dT (zR (j:=2)))
 .rw[show th (b-i:Nat) 2=O from(zR (j:=2)).trans (yz k)]at c;obtain⟨l,f,e⟩:=aU (K:=K) (m:=m) (m':=m) (ajs p n cc a b i j O) c (.cond rfl .nil);rw[bH k];exact⟨l,m,aC.last f (af aM),e,.refl _ _,h⟩
theorem arh (h:Sv B p n rest m d)(F:n<90000){a b:Nat}(Ay:a<b)(T:b<=n):
  ∃m',Ev K 210 [vL p 0 n cc,I a,I b,fR] m (.bool (Sort.partialInsertionSort cS d a b).2) m'/\Kp m m' (λy=>y=p)/\Sv B p n rest m' (Sort.partialInsertionSort cS d a b).1:=by
 obtain⟨t0,N,W⟩:=aU (K:=K) (m:=m) (m':=m) (tm:=entry [vL p 0 n cc,I a,I b,fR]) (ajK p n cc a b) rfl .nil;rw[eQ]at W;unfold Sort.partialInsertionSort;generalize hr:Sort.partialIns cS a b 5 (a+1) d=r;obtain⟨e,t1,f,he,S,hq,k1,t⟩:=eN (K:=K) (nt:=fp 210) (a:=cj 210 [3]) 5
  (Inv:=λj tm m'=>∃(g:Array El) (i:Nat),a<i/\i<=b/\bj [0,1,2,3,9,10] tm=[vL p 0 n cc,I a,I b,fR,I i,I j]/\Kp m m' (λy=>y=p)/\Sv B p n rest m' g/\Sort.partialIns cS a b (5-j) i g=r)
  (dm:=λe tm m'=>(e=.ret/\bj [8] tm=[.bool r.2]\/e=.exit 0/\r.2=O)/\Kp m m' (λy=>y=p)/\Sv B p n rest m' r.1)
  (by
   rintro j tm f hj ⟨g,i,J,w,H,k1,t,c⟩;obtain⟨ta,z,ga⟩:=aU (K:=K) (m:=f) (m':=f) (ajJ p n cc a b i j) H (.cond (dT (nX (j:=5)))<|.nil);obtain⟨R,rfl⟩:∃k,i=k+1:=⟨i-1,ai⟩;obtain⟨tb,l,D,M,kb,s⟩:=i210 (K:=K) t F T ga;have uV:=DF (d:=g) (b:=b) _ (R+1) rfl;rw[show 5-j=(5-(j+1))+1 by omega,Sort.partialIns]at c;simp only[]at c;generalize hS:Sort.scanSorted cS g b (R+1)=i at*;have G:=uV.2 w;have A:=k1.aX kb;have lead:∀e st,aC K (fp 210) (cj 210 [3,2]) 1 ⟨tb,l,[]⟩ e st->aC K (fp 210) (cj 210 [3,2]) 0 ⟨ta,f,[]⟩ e st:=λe st k=>aC.fC D k
   by_cases o:i=b
   .rw[bh o]at c;obtain⟨q,v,u⟩:=aU (K:=K) (m:=l) (m':=l) (ajr p n cc a b i j) M (.cond (by rw[my,o];simp)<|.nil);refine .inr ⟨.ret,q,l,iq,(aC.cut z (aC.AS AV AR (lead _ _ (aC.last v (af aM))) aM)).code CI,.inl ⟨rfl,?_⟩,A,?_⟩
    .rw[u,<-c]
    .rw[<-c];exact s
   .rw[bH o]at c;have P:(.bool (rk i b):ab)=.bool O:=by rw[my];exact bF (yz ai)
    by_cases x:b-a<50
    .rw[bh x]at c;obtain⟨q,v,u⟩:=aU (K:=K) (m:=l) (m':=l) (ajq p n cc a b i j) M (.cond P<|.cond (by rw[lJ ai];exact dT (nX (j:=50)))<|.nil);refine .inr ⟨.ret,q,l,iq,(aC.cut z (aC.AS AV AR (lead _ _ (aC.last v (af aM))) aM)).code CI,.inl ⟨rfl,?_⟩,A,?_⟩
     .rw[u,<-c]
     .rw[<-c];exact s
    .rw[bH x]at c
     left
     obtain⟨k,rfl⟩:∃k,i=k+1:=⟨i-1,ai⟩;have u:=s.gd;obtain⟨m3,m4,e3,g3,e4,k4,s4⟩:=s.swap (i:=k+1) (j:=k);obtain⟨tc,wc,gc⟩:=aU (ajD p n cc a b j k g[k+1]!.1 g[k]!.1) M (.cond P<|.cond (by rw[lJ ai];exact dF (nX (j:=50)))<|.idx sO ai<|.mem s.ld<|.idx rfl ai<|.mem s.ld<|.idx rfl ai<|.mem (aJ fS)<|.mem e3<|.idx sO ai<|.mem (aJ fS)<|.mem e4<|.nil);obtain⟨td,Q,Cd,L,k5,s5⟩:=apy (K:=K) s4 F ai ai ai gc;obtain⟨te,X,ge⟩:=aU (K:=K) (m:=Q) (m':=Q) (ajA p n cc a b (k+1) j) L .nil;obtain⟨tf,C,Cf,gf,k6,s6⟩:=apx (K:=K) s5 F ai ai T ge;obtain⟨tg,wg,V⟩:=aU (K:=K) (m:=C) (m':=C) (ajH p n cc a b (k+1) j) gf .nil;rw[eQ]at V;exact⟨tg,C,(aC.cut z (aC.uz AV AR (lead _ _ (aC.cut wc (Cd _ _ (aC.cut X Cf)))) (.inl rfl) (aC.last wg (af aM)))).code CI,_,k+1,ai,G,V,((A.trans k4 λ_ _ h=>h).trans k5 λ_ _ h=>h).trans k6 λ_ _ h=>h,s6,c⟩)
  (by
   rintro tm f ⟨g,i,J,w,H,k1,t,c⟩;obtain⟨q,cN,cA⟩:=aL (K:=K) (m:=f) (m':=f) CI (ajI p n cc a b i 5) H (.cond (by rfl) .nil);have c:(g,O)=r:=c;exact⟨_,q,f,iq,cN,.inr ⟨rfl,by rw[<-c]⟩,k1,by rw[<-c];exact t⟩)
  (tm:=t0) (m:=m) ⟨d,a+1,ai,ai,W,.refl _ _,h,hr⟩ ai
 rcases hq with⟨rfl,E⟩|⟨rfl,E⟩
 .exact⟨f,dE (vs:=[.bool r.2]) ad0 (aC.cut N (aC.By acj aco S aM)) (.inr rfl) E,k1,t⟩
 .obtain⟨q,v,u⟩:=aU (K:=K) (m:=f) (m':=f) (tm:=t1) ajp rfl .nil;exact⟨f,dE (vs:=[.bool r.2]) ad0 (aC.cut N (aC.fC S (aC.last v Sp))) (.inr rfl) (by rw[E];exact u),k1,t⟩
end
end Go.AM
