/-
  What the claim stands on, part 2.
-/
import Derived.Test.YtgfppohfgconeaaGreatDoorG1
import Derived.Orders
import Derived.Conc.DeferLaws
import Derived.Conc.Own5
import Derived.Conc.QuitsD
set_option linter.unusedVariables false
set_option linter.unusedSimpArgs false
open Go renaming Value → af, Goroutine → au, World → aA, Program → aE, TypeId → aW, Operand → cq, IntKind → cQ, Oper → hZ
open Option.some renaming injEq → ah
open Nat renaming le_refl → ai, lt_of_lt_of_le → bq, le_trans → cM
open Bool renaming and_eq_true → aj, false_eq_true → bu
open Option renaming map_eq_some_iff → ar, bind_eq_some_iff → ay, bind_some → cz, map_some → cR, isSome_iff_exists → qF
open Prod.mk renaming injEq → aC
open List renaming all_eq_true → aV
namespace Go.AM
open Go
section
variable {P:aE}{ρ:dL}{m:Mem}{w:aA}{N:Nat}
theorem pe {w:aA}{c:Nat}{o o':Obj}(ho:w.heap[c]?=some o')(h1:∀C t f,o'≠ .cells C t f)(h2:∀C t f,o≠ .cells C t f)(b x:Nat):
  ({w with heap:=w.heap.setIfInBounds c o}:aA).cell? ⟨b,x,none⟩=w.cell? ⟨b,x,none⟩/\({w with heap:=w.heap.setIfInBounds c o}:aA).shape? b=w.shape? b/\({w with heap:=w.heap.setIfInBounds c o}:aA).frozen? ⟨b,x,none⟩=w.frozen? ⟨b,x,none⟩:=by
 have cN:c<w.heap.size:=by
  rcases Nat.lt_or_ge c w.heap.size with h|h
  ·exact h
  ·rw[Array.getElem?_eq_none h]at ho;cases ho
 unfold aA.cell? aA.shape? aA.frozen?;simp only[Array.getElem?_setIfInBounds]
 by_cases hb:c=b
 ·subst hb;simp only[if_true,bL cN,ho];cases o with
  |cells C t f=>exact absurd rfl (h2 C t f)
  |_=>cases o' with
   |cells C t f=>exact absurd rfl (h1 C t f)
   |_=>exact⟨by first |rfl|trivial,by first |rfl|trivial,by first |rfl|trivial⟩
 ·simp only[bT hb];refine⟨?_,?_,?_⟩<;>first |rfl|trivial
theorem fO.setObj(h:fO ρ m w){b:Nat}{p:Pl}(hp:ρ b=some p){k:mn}(hk:(m.blk b).kind=2\/(m.blk b).kind=3)(Uk:k.kind=(m.blk b).kind){o o':Obj}(ho:w.heap[p.c]?=some o')(h1:∀C t f,o'≠ .cells C t f)(h2:∀C t f,o≠ .cells C t f)
  (SF:k.kind=2->∃mj,o= .map mj k.clock/\bM (zW ρ) k.es.toList mj.toList)(HQ:k.kind=3->p.d=0/\o= .stringIter k.str k.pos):
  Left ρ m w ρ (m.bE b k) {w with heap:=w.heap.setIfInBounds p.c o}:=by
 have fx:∀b',(m.bE b k).blk b'=if b=b' then{k with bw:=m.tick}else m.blk b':=fun b'=>Mem.eK ..
 have iR:∀b',((m.bE b k).blk b').kind=(m.blk b').kind:=fun b'=>by rw[fx];split<;>simp_all
 have cN:p.c<w.heap.size:=h.rr b p hp;have pf:∀b' x v,(m.bE b k).cell b' x=some v->b≠b'/\m.cell b' x=some v:=by
  intro b' x v hc;have hkc:=(Mem.eN hc).1;rw[iR]at hkc;have dx:b≠b':=by rintro rfl;omega
  refine⟨dx,?_⟩;unfold Mem.cell at hc⊢;rw[fx,bT dx]at hc;exact hc
 have SB:∀b' x,(m.bE b k).pz b' x->m.pz b' x:=by
  rintro b' x ⟨g1,g2,g3⟩;rw[iR]at g1;have dx:b≠b':=by rintro rfl;omega
  rw[fx,bT dx]at g3;exact⟨g1,g2,g3⟩
 have SA:∀b' x,(m.bE b k).okW b' x->m.okW b' x:=fun b' x hx=>⟨SB _ _ hx.1,hx.2⟩
 have HL:∀b' p',b≠b'->ρ b'=some p'->(m.blk b').kind≠0->p.c≠p'.c:=fun b' p' dx dW fR uw=>by
  have :=(h.sep b b' p p' dx hp dW av fR uw).1;omega
 refine⟨ρ.le_refl,⟨h.nj,fun b' p' dW fR=>?_,fun b' p' x v dW hc=>?_,fun b' p' x dW hx fR sF=>?_,fun b' p' dW fR pG=>?_,fun b' p' dW fR pG=>?_,fun xn xm nA og dx pE zN k₁ k₂ hc=>?_,fun b' p' dW=>?_,fun b' p' dW fR Ad=>?_⟩,⟨?_,?_,?_⟩,fun _ _=>rfl⟩
 ·rw[iR]at fR;have dx:b≠b':=by rintro rfl;omega
  rw[fx,bT dx];obtain⟨g1,g2,e,n,g3,g4⟩:=h.cells b' p' dW fR;exact⟨g1,g2,e,n,by rw[(pe ho h1 h2 p'.c 0).2.1];exact g3,g4⟩
 ·obtain⟨_,DD⟩:=pf _ _ _ hc;obtain⟨v',g1,g2⟩:=h.lT b' p' x v dW DD;exact⟨v',by rw[(pe ho h1 h2 _ _).1];exact g1,g2⟩
 ·rw[(pe ho h1 h2 _ _).2.2];rw[iR]at fR;exact h.thaw b' p' x dW hx fR sF
 ·rw[iR]at fR
  by_cases hb:b=b'
  ·subst hb;obtain rfl:p=p':=by rw[hp]at dW;exact Option.some.inj dW
   obtain⟨mj,rfl,g⟩:=SF av;rw[fx,bL rfl];exact⟨mj,by simp[cN],g⟩
  ·rw[fx,bT hb];obtain⟨mj,g1,g2⟩:=h.maps b' p' dW fR pG;exact⟨mj,by rw[Array.getElem?_setIfInBounds_ne (HL b' p' hb dW av)];exact g1,g2⟩
 ·rw[iR]at fR
  by_cases hb:b=b'
  ·subst hb;obtain rfl:p=p':=by rw[hp]at dW;exact Option.some.inj dW
   obtain⟨g,rfl⟩:=HQ av;rw[fx,bL rfl];exact⟨g,by simp[cN]⟩
  ·rw[fx,bT hb];obtain⟨g1,g2⟩:=h.lN b' p' dW fR pG;exact⟨g1,by rw[Array.getElem?_setIfInBounds_ne (HL b' p' hb dW av)];exact g2⟩
 ·rw[iR]at k₁ k₂⊢;rw[iR];exact h.sep xn xm nA og dx pE zN k₁ k₂ hc
 ·simpa using h.rr b' p' dW
 ·rw[iR]at fR;have dx:b≠b':=by rintro rfl;omega
  rw[fx,bT dx]at Ad;exact h.vars b' p' dW fR Ad
 ·rintro c x ⟨b',p',g1,g2,g3,g4,g5⟩;exact .inl ⟨b',p',g1,g2,g3,g4,SB _ _ g5⟩
 ·rintro c x ⟨b',p',g1,g2,g3,g4,g5⟩;exact .inl ⟨b',p',g1,g2,g3,g4,SA _ _ g5⟩
 ·rintro c ⟨b',p',g1,g2,g3,g4⟩;exact .inl ⟨b',p',g1,g2,by rwa[iR]at g3,g4⟩
theorem u5 {R:Perm}{c:Nat}{o o':Obj}(ho:w.heap[c]?=some o')(h1:∀C t f,o'≠ .cells C t f)(h2:∀C t f,o≠ .cells C t f)(h3:o.isChan=false)(hr:R.ob c){Q:Unit->aA->Prop}(hq:Q () {w with heap:=w.heap.setIfInBounds c o}):er P R N (setObj c o) Q w:=
 ⟨⟨o',ho,h1⟩,h2,h3,hr,hq⟩
theorem u6 {R:Perm}{c:Nat}{o:Obj}(ho:w.heap[c]?=some o)(h1:∀C t f,o≠ .cells C t f)(h3:o.isChan=false)(hr:R.ob c){Q:Obj->aA->Prop}(hq:Q o w):er P R N (getObj c) Q w:=
 ⟨o,ho,h1,h3,hr,hq⟩
theorem JO {R:Perm}{o:Obj}{Q:Nat->aA->Prop}(hq:Q w.heap.size {w with heap:=w.heap.push o}):er P R N (newObj o) Q w:=hq
theorem H6 (h:fO ρ m w){lG:Array aW}{ty:aW}{d d' s s' v:af}{m':Mem}(hd:bg ρ d d')(hs:bg ρ s s')(ha:D1 P lG d s m=some (v,m'))
  {Q:af->aA->Prop}(hq:∀v' w' bH,Left ρ m w bH m' w'->bg bH v v'->Q v' w'):er P (aB ρ m) N (Builtin.copy_ lG ty #[d',s']) Q w:=by
 unfold D1 at ha
 split at ha
 ·rename_i e base dl cap fp;obtain⟨st,Kw,fp⟩:=ay.1 fp
  split at ha
  ·rename_i size sl Mj hlen
   split at ha
   ·rename_i sb sn sc;obtain⟨cells,yn,ha⟩:=ay.1 ha;obtain⟨tD,iz,rfl,nI⟩:=qd.of hd;unfold Builtin.copy_;simp only[Kw,List.getElem?_toArray,List.getElem?_cons_zero,List.getElem?_cons_succ];rw[az];refine aK fp ?_;simp only[];rw[az];refine Be hs hlen ?_;rw[az];refine dP Mj ?_;rw[az];refine oz h hs yn fun wF wS=>?_
    split at ha
    ·rename_i b o;obtain⟨pl,dF,_,rfl,_⟩:=nI;obtain⟨m2,xC,S0⟩:=ar.1 ha;simp only[aC]at S0;obtain⟨rfl,rfl⟩:=S0;simp only[];rw[az];exact oT h dF xC wS fun w' hL _=>hq _ _ _ hL (cB rfl)
    ·obtain⟨rfl,_⟩:=nI;simp only[ah,aC]at ha;obtain⟨rfl,rfl⟩:=ha;exact hq _ _ _ (Left.refl h) (cB rfl)
    ·cases ha
   ·cases ha
  ·cases ha
 ·cases ha
theorem FK (h:fO ρ m w){lG:Array aW}{ty:aW}{x x' v:af}{m':Mem}(hx:bg ρ x x')(ha:nW P lG x m=some (v,m'))
  {Q:af->aA->Prop}(hq:∀v' w' bH,Left ρ m w bH m' w'->bg bH v v'->Q v' w'):er P (aB ρ m) N (Builtin.clear_ lG ty #[x']) Q w:=by
 unfold nW at ha
 split at ha
 ·rename_i e base n cap fp;obtain⟨st,Kw,fp⟩:=ay.1 fp;obtain⟨tD,iz,rfl,nI⟩:=qd.of hx;unfold Builtin.clear_;simp only[Kw,List.getElem?_toArray,List.getElem?_cons_zero];rw[az];refine aK fp ?_
  split at ha
  ·obtain⟨rfl,_⟩:=nI;simp only[ah,aC]at ha;obtain⟨rfl,rfl⟩:=ha;exact hq _ _ _ (Left.refl h) j9
  ·rename_i b o;obtain⟨pl,dF,_,rfl,_⟩:=nI
   split at ha
   ·rename_i hn;subst hn;simp only[ah,aC]at ha;obtain⟨rfl,rfl⟩:=ha;exact hq _ _ _ (Left.refl h) j9
   ·rename_i hn;obtain⟨z,hz,ha⟩:=ay.1 ha;obtain⟨m2,xC,S0⟩:=ar.1 ha;simp only[aC]at S0;obtain⟨rfl,rfl⟩:=S0;obtain⟨k,rfl⟩:∃k,n=k+1:=⟨n-1,av⟩
    show er P (aB ρ m) N (do storeCells ⟨pl.c,pl.d+o,none⟩ (Builtin.zeroCells (<-zeroValue e).cells (k+1)).toList;pure (af.tuple #[])) Q w
    rw[az];refine fh hz ?_;rw[az];exact oT h dF xC (iY (zB (jX hz).1 _)) fun w' hL _=>hq _ _ _ hL j9
  ·cases ha
 ·cases ha
theorem A8:∀{l:List af}{bs:List UInt8},l.mapM (m:=Option) (fun v=>match v with | .int .u8 n=>some (UInt8.ofNat n.toNat)|_=>none)=some bs->l.all dE=true
 | [],_,_=>rfl
 |v::l,bs,h=>by
  rw[List.mapM_cons]at h;simp only[Option.bind_eq_bind,ay,Option.pure_def,ah]at h;obtain⟨x,hx,ys,hys,rfl⟩:=h;rw[List.all_cons,A8 hys,Bool.and_true]
  split at hx
  ·rfl
  ·cases hx
theorem B5 {R:Perm}{f:af->ByteArray->Sem (ForInStep ByteArray)}(hf:∀n s,f (.int .u8 n) s=pure (.yield (s.push (UInt8.ofNat n.toNat)))){Q:ByteArray->aA->Prop}:
  ∀(l:List af) (s:ByteArray) (bs:List UInt8),l.mapM (m:=Option) (fun v=>match v with | .int .u8 n=>some (UInt8.ofNat n.toNat)|_=>none)=some bs->Q ⟨s.data++bs.toArray⟩ w->er P R N (forIn l s f) Q w
 | [],s,bs,h,hq=>by
  simp at h;subst h
  show Q s w
  simpa using hq
 |v::l,s,bs,h,hq=>by
  rw[List.mapM_cons]at h;simp only[Option.bind_eq_bind,ay,Option.pure_def,ah]at h;obtain⟨x,hx,ys,hys,rfl⟩:=h
  split at hx
  ·rename_i n;simp only[ah]at hx;subst hx;rw[List.forIn_cons,hf,pure_bind];refine B5 hf l (s.push (UInt8.ofNat n.toNat)) ys hys ?_;have e:(s.push (UInt8.ofNat n.toNat)).data++ys.toArray=s.data++(UInt8.ofNat n.toNat::ys).toArray:=by
    show s.data.push _++ys.toArray=_
    simp
   rw[e];exact hq
  ·cases hx
theorem Dg {R:Perm}{r:Nat}{x:Option (aW×Nat)}(h:w.shape? r=x){Q:Option (aW×Nat)->aA->Prop}(hq:Q x w):er P R N (shape r) Q w:=by
 show Q (w.shape? r) w
 rw[h];exact hq
theorem BS (h:fO ρ m w)(hN:N<=w.heap.size){s d:aW}{x x' v:af}{m':Mem}(hx:bg ρ x x')(ha:ej P s d x m=some (v,m'))
  {Q:af->aA->Prop}(hq:∀v' w' bH,Left ρ m w bH m' w'->bg bH v v'->Q v' w'):er P (aB ρ m) N (convert s d x') Q w:=by
 unfold ej at ha
 split at ha
 ·rename_i t b o hs hd;obtain⟨pl,dF,_,rfl⟩:=cW.1 hx;simp only[]at ha
  split at ha
  ·rename_i k hk
   split at ha
   ·rename_i hc;simp only[aj,beq_iff_eq,jE]at hc;simp only[ah,aC]at ha;obtain⟨rfl,rfl⟩:=ha;obtain⟨_,Um,e,n,fQ,hn⟩:=h.cells b pl dF hc.1;unfold convert;rw[az];refine aK hs ?_;rw[az];refine aK hd ?_
    show er P (aB ρ m) N (Conv.unsafePointer s d (.pointer (some ⟨pl.c,pl.d+o,none⟩))) Q w
    unfold Conv.unsafePointer;rw[az];refine aK hs ?_;rw[az];refine aK hd ?_;simp only[];rw[az];have HE:∀{Q:Addr->aA->Prop},Q ⟨pl.c,pl.d+o,none⟩ w->er P (aB ρ m) N (Conv.seenAt ⟨pl.c,pl.d+o,none⟩) Q w:=by
     intro Q hQ;unfold Conv.seenAt viewAt;simp only[bind_assoc];rw[az]
     show er P (aB ρ m) N _ Q w
     rw[fQ];exact hQ
    refine HE ?_;unfold cellsIn;simp only[bind_assoc];rw[az]
    show er P (aB ρ m) N _ Q w
    rw[fQ];simp only[pure_bind];rw[az];refine dP hk ?_;rw[bT (by simp;omega)];exact hq _ _ _ (Left.refl h) hx
   ·cases ha
  ·cases ha
 ·rename_i e str hs hd;obtain rfl:=(aL (by rfl)).1 hx
  split at ha
  ·rename_i he
   split at ha
   ·cases ha
   ·rename_i jJ;simp only[ah,aC]at ha;obtain⟨rfl,rfl⟩:=ha;unfold convert;rw[az];refine aK hs ?_;rw[az];refine aK hd ?_;simp only[];rw[az];refine aK he ?_;simp only[];unfold Conv.stringToBytes;rw[az];refine sW av fun nc hn1 hn2=>?_
    rw[az];refine oX ?_;generalize hC:(str.data.map fun b=>(af.int .u8 b.toNat))++Array.replicate (nc-str.size) (af.int .u8 0)=C;rw[az];unfold markStringish;rw[az];have fQ:({w with drawn:=w.drawn+1,heap:=w.heap.push (.cells C e)}:aA).shape? w.heap.size=some (e,C.size):=by
     unfold aA.shape?;simp
    refine Dg fQ ?_;refine⟨hN,?_⟩;have hf:({w with drawn:=w.drawn+1,heap:=w.heap.push (.cells C e)}:aA).freeze ⟨w.heap.size,C.size,none⟩ 1={w with drawn:=w.drawn+1,heap:=w.heap.push (.cells C e (C.size,C.size+1))}:=by
     unfold aA.freeze;rw[bT av];have :(w.heap.push (.cells C e)).modify w.heap.size (fun
      | .cells c elem (lo,hi)=> .cells c elem (if lo==hi then(C.size,C.size+1)else(min lo C.size,max hi (C.size+1)))
      |o=>o)=w.heap.push (.cells C e (C.size,C.size+1)):=by
      apply Array.ext_getElem?;intro i;rw[Array.getElem?_modify]
      by_cases hi:w.heap.size=i
      ·subst hi;simp
      ·rw[bT hi];rcases Nat.lt_or_ge i w.heap.size with g|g
       ·rw[Array.getElem?_push_lt g,Array.getElem?_push_lt g]
       ·rw[Array.getElem?_eq_none (by simp;omega),Array.getElem?_eq_none (by simp;omega)]
     exact congrArg (fun hp=>({w with drawn:=w.drawn+1,heap:=hp}:aA)) this
    show er P (aB ρ m) N (pure (af.slice (some ⟨w.heap.size,0,none⟩) str.size nc)) Q _
    rw[hf];have hn:=qS h;have hCs:C.size=nc:=by rw[<-hC];simp;show str.size+(nc-str.size)=nc;omega
    have kK:(m.alloc {kind:=1,sz:=1,cs:=str.data.toList.map fun b=>some (.int .u8 b.toNat)}).blk m.next={kind:=1,sz:=1,cs:=str.data.toList.map fun b=>some (.int .u8 b.toNat),bw:=m.tick}:=by rw[Mem.cD,bL rfl]
    have hL:Left ρ m w (ρ.put m.next ⟨w.heap.size,0,C.size,1⟩) (m.alloc {kind:=1,sz:=1,cs:=str.data.toList.map fun b=>some (.int .u8 b.toNat)}) {w with drawn:=w.drawn+1,heap:=w.heap.push (.cells C e (C.size,C.size+1))}:=by
     refine⟨dL.sZ hn _,(h.bump _).lay hn cK (o:= .cells C e (C.size,C.size+1)) rfl rfl (fun _=>?_) (fun hk=>by rw[kK]at hk;simp at hk) (fun hk=>by rw[kK]at hk;simp at hk),
      (my (lA h _) rfl rfl rfl rfl _).trans (uT hn (ai _)),z4⟩
     rw[kK];refine⟨rfl,rfl,?_,C,e,(C.size,C.size+1),rfl,ai _,fun x hx dk=>by have h1:x<C.size:=hx;have h2:C.size<=x:=dk.1;omega,fun i v hi=>?_⟩
     ·simp only[List.length_map,Array.length_toList];show str.size<=C.size;omega
     ·rw[List.getElem?_map,ar]at hi;obtain⟨u,hu,hx⟩:=hi;obtain rfl:=Option.some.inj hx;refine⟨_,?_,cB rfl⟩;rw[<-hC];have cN:i<str.data.size:=by
       rcases Nat.lt_or_ge i str.data.size with g|g
       ·exact g
       ·rw[List.getElem?_eq_none (by simpa using g)]at hu;cases hu
      rw[Array.getElem?_append_left (by simpa using cN)];simp only[Array.getElem?_map,ar];exact⟨u,by simpa using hu,rfl⟩
    refine hq _ _ _ hL (cA.2 ⟨_,nc,dL.kR ..,rfl,rfl,?_⟩);rw[bL rfl];refine⟨hn1,?_⟩
    show 0+nc*1<=C.size
    omega
  ·cases ha
 ·rename_i e a len cap hs hd
  split at ha
  ·rename_i he;obtain rfl:=(aL (by rfl)).1 hx;simp only[ah,aC]at ha;obtain⟨rfl,rfl⟩:=ha;unfold convert;rw[az];refine aK hs ?_;rw[az];refine aK hd ?_;simp only[];rw[az];refine aK he ?_;exact hq _ _ _ (Left.refl h) (cB rfl)
  ·rename_i b o he;obtain⟨l,hl,ha⟩:=ay.1 ha;obtain⟨bs,YP,ha⟩:=ar.1 ha;simp only[aC]at ha;obtain⟨rfl,rfl⟩:=ha;obtain⟨pl,iz,dF,_,rfl,_⟩:=cA.1 hx;unfold convert;rw[az];refine aK hs ?_;rw[az];refine aK hd ?_;simp only[];rw[az];refine aK he ?_;simp only[];unfold Conv.bytesToString;simp only[];rw[az];refine h.ql dF hl fun l' Ae=>?_
   obtain rfl:=pS (A8 YP) Ae;rw[az];simp only[List.forIn_toArray];exact B5 (fun _ _=>rfl) l' ByteArray.empty bs YP (hq _ _ _ (Left.refl h) ((aL (by rfl)).2 cK))
  ·cases ha
 ·cases ha
theorem bytes_beq {a b:ByteArray}:(a==b)=true↔a=b:=by
 show(a.data==b.data)=true↔a=b
 rw[beq_iff_eq];exact⟨ByteArray.ext,fun h=>by rw[h]⟩
theorem si {R:Perm}{b:Bool}{n:Nat}{kt:aW}{s:ByteArray}(hk:P.underlying kt=some .string){Q:Unit->aA->Prop}(hq:Q () w):er P R N (Instr.checkKey b (n+1) kt (.string s)) Q w:=by
 unfold Instr.checkKey;rw[az];refine aK hk ?_;exact hq
theorem zp {s:ByteArray}:∀{es mj:List MapEntry} (i:Nat),bM (zW ρ) es mj->strKeys es=true->
  ∃r,Instr.findNow .string (.string s) mj i=some r/\(match oA s es i with
   |some (j,v)=>∃v',r=some (j,v')/\bg ρ v v'
   |none=>r=none)
 | [],[],i,_,_=>⟨none,rfl,rfl⟩
 | [],_::_,_,h,_=>h.elim
 |_::_,[],_,h,_=>h.elim
 |e::es,e'::mj,i,h,hs=>by
  obtain⟨⟨hk,hv,_⟩,ht⟩:=h;simp only[strKeys,aj]at hs;obtain⟨HF,hs2⟩:=hs
  split at HF
  ·rename_i str hek;rw[hek]at hk;have fR:=(aL (by rfl)).1 hk;unfold Instr.findNow oA;rw[fR,hek];simp only[Instr.sameNow]
   by_cases hb:(s==str)=true
   ·rw[hb];exact⟨_,rfl,_,rfl,hv⟩
   ·have gN:(s==str)=false:=by simpa using hb
    rw[gN];simp only[bu,if_false];exact zp (i+1) ht hs2
  ·cases HF
theorem zq {R:Perm}{kt:aW}{s:ByteArray}(hk:P.underlying kt=some .string){es mj:List MapEntry}(he:bM (zW ρ) es mj)(hs:strKeys es=true){Q:Option (Nat×af)->aA->Prop}
  (hq:∀r,(match oA s es 0 with
   |some (j,v)=>∃v',r=some (j,v')/\bg ρ v v'
   |none=>r=none)->Q r w):er P R N (Instr.findKey kt (.string s) mj) Q w:=by
 unfold Instr.findKey;rw[az];refine aK hk ?_;obtain⟨r,h1,h2⟩:=zp (s:=s) 0 he hs;rw[h1];exact hq _ h2
theorem CD (h:fO ρ m w){t:aW}{x x' k k' v:af}{ok:Bool}(hx:bg ρ x x')(hk:bg ρ k k')(ha:jQ P t x k ok m=some v)
  {Q:af->aA->Prop}(hq:∀v',bg ρ v v'->Q v' w):er P (aB ρ m) N (Instr.lookup t x' k' ok) Q w:=by
 unfold jQ at ha
 split at ha
 ·rename_i kt et r s ht;obtain rfl:=(aL (by rfl)).1 hk
  split at ha
  ·rename_i z hkt hz;have fin:∀{es mj:List MapEntry} (_:bM (zW ρ) es mj) (_:strKeys es=true),(let v:=match oA s es 0 with |some (_,v)=>(v,true)|none=>(z,false)
     (if ok then af.tuple #[v.1,.bool v.2]else v.1))=v->∀b,er P (aB ρ m) N (do
      Instr.checkKey b 10000 kt (.string s)
      let(v,ok')<-match<-Instr.findKey kt (.string s) mj with
       |some (_,v)=>pure (v,true)
       |none=>pure (<-zeroValue et,false)
      pure (if ok then af.tuple #[v,.bool ok']else v)) Q w:=by
    intro es mj he hs hv b;rw[az];refine si hkt ?_;rw[az];refine zq hkt he hs fun r hr=>?_
    have Ft:∀u u' b,bg ρ u u'->(if ok then af.tuple #[u,.bool b]else u)=v->Q (if ok then af.tuple #[u',.bool b]else u') w:=by
     intro u u' b hu hv;refine hq _ ?_;subst hv;cases ok with
     |false=>exact hu
     |true=>exact fE.2 ⟨_,rfl,hu,cB rfl,trivial⟩
    split at hr
    ·rename_i j u hf;obtain⟨u',rfl,hu⟩:=hr;simp only[hf]at hv;exact Ft _ _ _ hu hv
    ·rename_i hf;subst hr;simp only[hf]at hv;simp only[];rw[az];refine fh hz ?_;exact Ft _ _ _ (by
      have :=jX hz;refine cB ?_;unfold jO at hz;cases z with
      |agg cs=>exact this.1
      |tuple cs=>exact absurd this.1 (by simp[af.cells,dE])
      |_=>simpa[plain,af.cells]using this.1) hv
   unfold Instr.lookup;rw[az];refine aK ht ?_;simp only[]
   split at ha
   ·rename_i es IK
    split at ha
    ·rename_i hsk;simp only[ah]at ha
     split at IK
     ·simp only[ah]at IK;subst IK;obtain rfl:=(aL (by rfl)).1 hx;exact fin (es:=[]) (mj:=[]) trivial rfl ha true
     ·rename_i b;simp only[]at IK
      split at IK
      ·rename_i hc;simp only[aj,beq_iff_eq]at hc;simp only[ah]at IK;subst IK;obtain⟨p,hp,rfl⟩:=kO.1 hx;obtain⟨mj,g1,g2⟩:=h.maps b p hp hc.1 hc.2;simp only[bind_assoc];rw[az];refine u6 (R:=aB ρ m) g1 (by intro _ _ _ h;cases h) rfl ⟨b,p,hp,rfl,.inl hc.1,hc.2⟩ ?_;simp only[pure_bind];exact fin g2 hsk ha _
      ·cases IK
    ·cases ha
   ·cases ha
  ·cases ha
 ·cases ha
theorem zo {s:ByteArray}:∀{es:List MapEntry}{i j:Nat}{v:af},oA s es i=some (j,v)->i<=j/\∃e,es[j-i]?=some e/\e.key= .string s
 | [],_,_,_,h=>by cases h
 |e::es,i,j,v,h=>by
  unfold oA at h
  split at h
  ·rename_i k hk
   split at h
   ·rename_i hb;simp only[ah,aC]at h;obtain⟨rfl,rfl⟩:=h;refine⟨ai _,e,cK,?_⟩;rw[hk,bytes_beq.1 hb]
   ·obtain⟨h1,e',h2,h3⟩:=zo h;refine⟨av,e',?_,h3⟩;rw[show j-i=(j-(i+1))+1 by omega];simpa using h2
  ·cases h
theorem GK {l r:List MapEntry}(h:bM (zW ρ) l r)(i:Nat){f g:MapEntry->MapEntry}(hfg:∀a b,zW ρ a b->zW ρ (f a) (g b)):bM (zW ρ) (l.modify i f) (r.modify i g):=by
 refine bM.EZ (by simp[h.length]) fun j a b ha hb=>?_
 rw[List.getElem?_modify]at ha hb;cases hl:l[j]? with
 |none=>simp[hl]at ha
 |some x=>
  obtain⟨y,hy,IG⟩:=h.get hl;rw[hl]at ha;rw[hy]at hb;obtain rfl:=Option.some.inj ha;obtain rfl:=Option.some.inj hb
  show zW ρ (if i=j then f x else x) (if i=j then g y else y)
  by_cases vl:i=j
  ·rw[bL vl,bL vl];exact hfg _ _ IG
  ·rw[bT vl,bT vl];exact IG
theorem xV (h:fO ρ m w){t:aW}{x x' k k' v v':af}{m':Mem}(hx:bg ρ x x')(hk:bg ρ k k')(hv:bg ρ v v')(ha:lC P t x k v m=some m')
  {Q:Unit->aA->Prop}(hq:∀w',Left ρ m w ρ m' w'->Q () w'):er P (aB ρ m) N (Instr.mapUpdate t x' k' v') Q w:=by
 unfold lC at ha
 split at ha
 ·rename_i kt et b s ht;obtain rfl:=(aL (by rfl)).1 hk
  split at ha
  ·rename_i hkt;simp only[]at ha
   split at ha
   ·rename_i hc;simp only[aj,beq_iff_eq]at hc;obtain⟨⟨Mz,sf⟩,hsk⟩:=hc;obtain⟨p,hp,rfl⟩:=kO.1 hx;obtain⟨mj,g1,g2⟩:=h.maps b p hp Mz sf;have Dw:(aB ρ m).ob p.c:=⟨b,p,hp,rfl,.inl Mz,sf⟩;unfold Instr.mapUpdate;rw[az];refine aK ht ?_;simp only[];rw[az];refine u6 g1 (by intro _ _ _ h;cases h) rfl Dw ?_;simp only[];rw[az];refine si hkt ?_;rw[az];refine zq hkt g2 hsk fun r hr=>?_
    split at hr
    ·rename_i i u hf;obtain⟨u',rfl,hu⟩:=hr;rw[hf]at ha;simp only[ah]at ha;subst ha;obtain⟨_,e,Fu,he2⟩:=zo hf;rw[Nat.sub_zero]at Fu;obtain⟨e',al4,hee⟩:=g2.get Fu;have WQ:e'.key= .string s:=by have :=hee.1;rw[he2]at this;exact(aL (by rfl)).1 this
     have hold:((mj[i]?).map (·.key)).getD (.string s)= .string s:=by
      rw[show mj[i]?=some e' by simpa using al4];exact WQ
     simp only[];rw[az,hold];have ahm:∀{Q:af->aA->Prop},Q (.string s) w->er P (aB ρ m) N (Instr.keyThatStays (.string s) (.string s)) Q w:=by
      intro Q hQ;unfold Instr.keyThatStays;rw[bL (by show(s==s)=true;exact bytes_beq.2 rfl)];exact hQ
     refine ahm ?_;refine u5 g1 (by intro _ _ _ h;cases h) (by intro _ _ _ h;cases h) rfl Dw ?_;refine hq _ (h.setObj hp (.inl Mz) (by rfl) g1 (by intro _ _ _ h;cases h) (by intro _ _ _ h;cases h) (fun _=>⟨_,rfl,?_⟩) (fun OI=>by have :(m.blk b).kind=3:=OI;omega));simp only[Array.toList_modify];exact GK g2 i fun a b W1=>⟨cB rfl,hv,W1.2.2⟩
    ·rename_i hf;subst hr;rw[hf]at ha;simp only[ah]at ha;subst ha;simp only[];refine u5 g1 (by intro _ _ _ h;cases h) (by intro _ _ _ h;cases h) rfl Dw ?_;refine hq _ (h.setObj hp (.inl Mz) (by rfl) g1 (by intro _ _ _ h;cases h) (by intro _ _ _ h;cases h) (fun _=>⟨_,rfl,?_⟩) (fun OI=>by have :(m.blk b).kind=3:=OI;omega));simp only[Array.toList_push];exact g2.append ⟨⟨cB rfl,hv,rfl⟩,trivial⟩
   ·cases ha
  ·cases ha
 ·cases ha
theorem CZ {t:aW}{z:af}(hz:jO P t=some z):bg ρ z z:=by
 have :=jX hz;refine cB ?_;cases z with
 |agg cs=>exact this.1
 |tuple cs=>exact absurd this.1 (by simp[af.cells,dE])
 |_=>simpa[plain,af.cells]using this.1
theorem vT {x x' v:af}{t a:aW}{ok:Bool}(hx:bg ρ x x')(ha:pO P x t a ok=some v){R:Perm}
  {Q:af->aA->Prop}(hq:∀v',bg ρ v v'->Q v' w):er P R N (Instr.typeAssert x' t a ok) Q w:=by
 unfold pO at ha
 split at ha
 ·cases ha
 ·rename_i d hni hd;obtain rfl:=(aL (by rfl)).1 hx;obtain⟨z,hz,rfl⟩:=ar.1 ha;unfold Instr.typeAssert;rw[az];refine aK hd ?_;cases d with
  |interface ms=>exact(hni _ rfl).elim
  |_=>
   simp only[if_true];rw[az];refine fh hz ?_;exact hq _ (fE.2 ⟨_,rfl,CZ hz,cB rfl,trivial⟩)
 ·rename_i d dt u hni hd;obtain⟨u',rfl,hu⟩:=iA.1 hx;unfold Instr.typeAssert;rw[az];refine aK hd ?_;cases d with
  |interface ms=>exact(hni _ rfl).elim
  |_=>
   simp only[if_true]
   split at ha
   ·rename_i YM;rw[bL YM];simp only[ah]at ha;subst ha;exact hq _ (fE.2 ⟨_,rfl,hu,cB rfl,trivial⟩)
   ·rename_i YM;rw[bT YM];obtain⟨z,hz,rfl⟩:=ar.1 ha;rw[az];refine fh hz ?_;exact hq _ (fE.2 ⟨_,rfl,CZ hz,cB rfl,trivial⟩)
 ·cases ha
theorem fO.LM(h:fO ρ m w){k:mn}{o:Obj}(hk:k.kind=2\/k.kind=3)(SF:k.kind=2->∃mj,o= .map mj k.clock/\bM (zW ρ) k.es.toList mj.toList)(HQ:k.kind=3->o= .stringIter k.str k.pos):
  Left ρ m w (ρ.put m.next ⟨w.heap.size,0,0,0⟩) (m.alloc k) {w with heap:=w.heap.push o}:=by
 have hn:=qS h;have kK:(m.alloc k).blk m.next={k with bw:=m.tick}:=by rw[Mem.cD,bL rfl]
 refine⟨dL.sZ hn _,(h.bump k).lay hn cK (o:=o) rfl rfl (fun h1=>?_) (fun h2=>?_) (fun h3=>?_),
  (my (lA h _) rfl rfl rfl rfl _).trans (uT hn (ai _)),z4⟩
 ·rw[kK]at h1;simp at h1;omega
 ·rw[kK]at h2⊢;exact SF h2
 ·rw[kK]at h3⊢;exact⟨rfl,HQ h3⟩
theorem EJ (h:fO ρ m w){t:aW}{x x' v:af}{m':Mem}(hx:bg ρ x x')(ha:xP P t x m=some (v,m')){R:Perm}
  {Q:af->aA->Prop}(hq:∀v' w' bH,Left ρ m w bH m' w'->bg bH v v'->Q v' w'):er P R N (Instr.range t x') Q w:=by
 unfold xP at ha
 split at ha
 ·rename_i s ht;obtain rfl:=(aL (by rfl)).1 hx;simp only[ah,aC]at ha;obtain⟨rfl,rfl⟩:=ha;unfold Instr.range;rw[az];refine aK ht ?_;simp only[pure_bind];rw[az];refine JO ?_;exact hq _ _ _ (h.LM (.inr rfl) (fun h=>by cases h) fun _=>rfl) (cW.2 ⟨_,dL.kR ..,rfl,rfl⟩)
 ·cases ha
theorem Hh (h:fO ρ m w){it it' v:af}{isS:Bool}{ty:aW}{m':Mem}(hx:bg ρ it it')(ha:Dl it isS m=some (v,m'))
  {Q:af->aA->Prop}(hq:∀v' w' bH,Left ρ m w bH m' w'->bg bH v v'->Q v' w'):er P (aB ρ m) N (Instr.next it' isS ty) Q w:=by
 unfold Dl at ha
 split at ha
 ·rename_i b;obtain⟨p,hp,_,rfl⟩:=cW.1 hx;simp only[]at ha
  split at ha
  ·rename_i hc;simp only[aj,beq_iff_eq]at hc;obtain⟨g0,g1⟩:=h.lN b p hp hc.1 hc.2;have Dw:(aB ρ m).ob p.c:=⟨b,p,hp,rfl,.inr hc.1,hc.2⟩;unfold Instr.next;simp only[g0,Nat.zero_add];rw[az];refine u6 g1 (by intro _ _ _ h;cases h) rfl Dw ?_;simp only[]
   split at ha
   ·rename_i cN;rw[bL cN];simp only[ah,aC]at ha;obtain⟨rfl,rfl⟩:=ha;rw[az];refine u5 g1 (by intro _ _ _ h;cases h) (by intro _ _ _ h;cases h) rfl Dw ?_;exact hq _ _ _ (h.setObj hp (.inr hc.1) (by rfl) g1 (by intro _ _ _ h;cases h) (by intro _ _ _ h;cases h) (fun h2=>by have :(m.blk b).kind=2:=h2;omega) fun _=>⟨g0,rfl⟩) (cB rfl)
   ·rename_i cN;rw[bT cN];simp only[ah,aC]at ha;obtain⟨rfl,rfl⟩:=ha;exact hq _ _ _ (Left.refl h) (cB rfl)
  ·cases ha
 ·cases ha
end
end Go.AM
namespace Go.AM
open Go
section
variable {P:aE}{ρ:dL}{m:Mem}{w:aA}{N:Nat}
theorem yX {α:Type}{R:Perm}:∀{s:Sem α}{a:α},s.aP P=some a->∀{Q:α->aA->Prop},Q a w->er P R N s Q w
 | .pure a,b,h,Q,hq=>by
  simp only[Sem.aP,ah]at h;subst h;exact hq
 | .program k,b,h,Q,hq=>yX (s:=k P) h hq
 | .load ..,_,h,_,_=>by simp[Sem.aP]at h
 | .store ..,_,h,_,_=>by simp[Sem.aP]at h
 | .new ..,_,h,_,_=>by simp[Sem.aP]at h
 | .shape ..,_,h,_,_=>by simp[Sem.aP]at h
 | .freeze ..,_,h,_,_=>by simp[Sem.aP]at h
 | .frozen ..,_,h,_,_=>by simp[Sem.aP]at h
 | .getObj ..,_,h,_,_=>by simp[Sem.aP]at h
 | .setObj ..,_,h,_,_=>by simp[Sem.aP]at h
 | .choose ..,_,h,_,_=>by simp[Sem.aP]at h
 | .sys ..,_,h,_,_=>by simp[Sem.aP]at h
 | .mark ..,_,h,_,_=>by simp[Sem.aP]at h
 | .halt ..,_,h,_,_=>by simp[Sem.aP]at h
def aiY (ρ:dL)(v:af)(nx:Next):Prop:=∃v',bg ρ v v'/\(nx= .value v'\/(nx= .skip/\v=undef/\v'=undef))
def gT (P:aE)(ρ:dL)(m:Mem)(N:Nat)(s:Sem Next)(v:af)(m':Mem)(w:aA):Prop:=
 er P (aB ρ m) N s (fun nx w'=>∃bH,Left ρ m w bH m' w'/\aiY bH v nx) w
variable {v:af}{m':Mem}
theorem gT.val{s:Sem af}(h:∀{Q:af->aA->Prop},(∀v' w' bH,Left ρ m w bH m' w'->bg bH v v'->Q v' w')->er P (aB ρ m) N s Q w):gT P ρ m N (do pure (.value (<-s))) v m' w:=by
 unfold gT;rw[az];exact h fun v' w' bH hL hv=>⟨bH,hL,v',hv,.inl rfl⟩
theorem gT.ja(hs:fO ρ m w){s:Sem af}(h:∀{Q:af->aA->Prop},(∀v',bg ρ v v'->Q v' w)->er P (aB ρ m) N s Q w):gT P ρ m N (do pure (.value (<-s))) v m w:=
 gT.val fun hq=>h fun v' hv=>hq v' w ρ (Left.refl hs) hv
theorem gT.unit{s:Sem Unit}(h:∀{Q:Unit->aA->Prop},(∀w',Left ρ m w ρ m' w'->Q () w')->er P (aB ρ m) N s Q w):gT P ρ m N (do s;pure .skip) undef m' w:=by
 unfold gT;rw[az];exact h fun w' hL=>⟨ρ,hL,undef,mA,.inr ⟨rfl,rfl,rfl⟩⟩
theorem gT.now(hs:fO ρ m w){v':af}(hv:bg ρ v v'):gT P ρ m N (pure (.value v')) v m w:=⟨ρ,Left.refl hs,v',hv,.inl rfl⟩
theorem y6 {r r':af}{name:String}{f:Nat}{recv:af}(hr:bg ρ r r')(hm:eW P r name=some (f,recv)):
  ∃t u u' i mt e,r= .iface t u/\r'= .iface t u'/\recv=u/\bg ρ u u'/\P.info? t=some i/\P.underlying t=some (.pointer e)/\i.methods.find? (·.name==name)=some mt/\mt.path.toList=[]/\mt.func=some (f,true):=by
 unfold eW at hm
 split at hm
 ·rename_i t u;obtain⟨u',rfl,hu⟩:=iA.1 hr
  split at hm
  ·rename_i i e hi he
   split at hm
   ·rename_i mt hmt
    split at hm
    ·rename_i f' hp hf;simp only[ah,aC]at hm;obtain⟨rfl,rfl⟩:=hm;exact⟨t,u,u',i,mt,e,rfl,rfl,rfl,hu,hi,he,hmt,hp,hf⟩
    ·cases hm
   ·cases hm
  ·cases hm
 ·cases hm
theorem zJ {t:aW}{u':af}{i:TypeInfo}{mt:Method}{name:String}{f n:Nat}(hi:P.info? t=some i)(hmt:i.methods.find? (·.name==name)=some mt)(hp:mt.path.toList=[])(hf:mt.func=some (f,true))
  {R:Perm}{Q:Option Bool->aA->Prop}(hq:Q (some false) w):er P R N (nilAhead (n+1) t u' name) Q w:=by
 unfold nilAhead;rw[az];refine ik hi ?_;rw[hmt];simp only[hp,followBlind,pure_bind];rw[hf];exact hq
theorem ji {op:BinOp}{t:aW}{x y:cq}{a b:af}{R:Perm}{Q:Unit->aA->Prop}(h1:∀xs ys,a= .agg xs->b= .agg ys->False)(h2:a= .nilIface->b= .nilIface->(isConst x||isConst y)=true)(hq:Q () w):
  er P R N (eqGuard op t x y a b) Q w:=by
 unfold eqGuard
 split
 ·rw[bT cK]
  split
  ·have :=h2 rfl rfl;unfold isConst at this;rw[bL (by cases x<;>cases y<;>simp_all)];exact hq
  ·exact(h1 _ _ rfl rfl).elim
  ·exact hq
 ·rw[bT cK]
  split
  ·have :=h2 rfl rfl;unfold isConst at this;rw[bL (by cases x<;>cases y<;>simp_all)];exact hq
  ·exact(h1 _ _ rfl rfl).elim
  ·exact hq
 ·exact hq
theorem zr {t:aW}{xc yc:cq}{x x' y y':af}{b:Bool}(hx:bg ρ x x')(hy:bg ρ y y')(he:qZ P t (isConst xc) (isConst yc) x y=some b){R:Perm}:
  (∀{Q:Bool->aA->Prop},Q b w->er P R N (Op.equal t x' y') Q w)/\(∀op {Q:Unit->aA->Prop},Q () w->er P R N (eqGuard op t xc yc x' y') Q w)/\
  (∀op,binOp op t x' y'=match op with | .eql=>(do pure (.bool (<-Op.equal t x' y')))| .neq=>(do pure (.bool (!(<-Op.equal t x' y'))))|op=>binOp op t x' y'):=by
 unfold qZ at he
 split at he
 ·rename_i e q hu;simp only[ah]at he;subst he;obtain rfl:=(aL (by rfl)).1 hx;have WC:∃q',y'= .pointer q'/\q'.isNone=q.isNone:=by
   cases q with
   |none=>exact⟨none,(aL (by rfl)).1 hy,rfl⟩
   |some a=>obtain⟨p,_,_,rfl⟩:=cW.1 hy;exact⟨_,rfl,rfl⟩
  obtain⟨q',rfl,Ac⟩:=WC;refine⟨fun hQ=>?_,fun op Q hQ=>ji (fun _ _ h _=>by cases h) (fun h=>by cases h) hQ,fun op=>by cases op<;>rfl⟩;unfold Op.equal Op.maxDepth Op.equalIn;rw[az];refine aK hu ?_
  show _
  rw[<-Ac]at hQ;exact hQ
 ·rename_i e a hu;simp only[ah]at he;subst he;obtain⟨p,_,_,rfl⟩:=cW.1 hx;obtain rfl:=(aL (by rfl)).1 hy;refine⟨fun hQ=>?_,fun op Q hQ=>ji (fun _ _ h _=>by cases h) (fun h=>by cases h) hQ,fun op=>by cases op<;>rfl⟩;unfold Op.equal Op.maxDepth Op.equalIn;rw[az];refine aK hu ?_;exact hQ
 ·rename_i e l c q l' c' hu;simp only[ah]at he;subst he;obtain rfl:=(aL (by rfl)).1 hx;have WC:∃q' c'',y'= .slice q' l' c''/\q'.isNone=q.isNone:=by
   cases q with
   |none=>exact⟨none,_,(aL (by rfl)).1 hy,rfl⟩
   |some a=>obtain⟨p,_,_,_,rfl,_⟩:=cA.1 hy;exact⟨_,_,rfl,rfl⟩
  obtain⟨q',c'',rfl,Ac⟩:=WC;refine⟨fun hQ=>?_,fun op Q hQ=>ji (fun _ _ h _=>by cases h) (fun h=>by cases h) hQ,fun op=>by cases op<;>rfl⟩;unfold Op.equal Op.maxDepth Op.equalIn;rw[az];refine aK hu ?_;rw[<-Ac]at hQ;exact hQ
 ·rename_i e a l c l' c' hu;simp only[ah]at he;subst he;obtain⟨p,_,_,_,rfl,_⟩:=cA.1 hx;obtain rfl:=(aL (by rfl)).1 hy;refine⟨fun hQ=>?_,fun op Q hQ=>ji (fun _ _ h _=>by cases h) (fun h=>by cases h) hQ,fun op=>by cases op<;>rfl⟩;unfold Op.equal Op.maxDepth Op.equalIn;rw[az];refine aK hu ?_;exact hQ
 ·rename_i ms hu
  split at he
  ·rename_i hc;simp only[ah]at he;subst he;obtain rfl:=(aL (by rfl)).1 hx;obtain rfl:=(aL (by rfl)).1 hy;refine⟨fun hQ=>?_,fun op Q hQ=>ji (fun _ _ h _=>by cases h) (fun _ _=>hc) hQ,fun op=>by cases op<;>rfl⟩;unfold Op.equal Op.maxDepth Op.equalIn;rw[az];refine aK hu ?_;exact hQ
  ·cases he
 ·rename_i ms t2 u hu;simp only[ah]at he;subst he;obtain rfl:=(aL (by rfl)).1 hx;obtain⟨u',rfl,_⟩:=iA.1 hy;refine⟨fun hQ=>?_,fun op Q hQ=>ji (fun _ _ h _=>by cases h) (fun _ h=>by cases h) hQ,fun op=>by cases op<;>rfl⟩;unfold Op.equal Op.maxDepth Op.equalIn;rw[az];refine aK hu ?_;exact hQ
 ·rename_i ms t2 u hu;simp only[ah]at he;subst he;obtain⟨u',rfl,_⟩:=iA.1 hx;obtain rfl:=(aL (by rfl)).1 hy;refine⟨fun hQ=>?_,fun op Q hQ=>ji (fun _ _ h _=>by cases h) (fun h=>by cases h) hQ,fun op=>by cases op<;>rfl⟩;unfold Op.equal Op.maxDepth Op.equalIn;rw[az];refine aK hu ?_;exact hQ
 ·cases he
theorem Cz {ev oJ:cq->af}{o:hZ}(eh:∀x∈o.op.operands,bg ρ (ev x) (oJ x))(yi:∀cs b,o.op≠ .select cs b)(hs:fO ρ m w)(h:dp P ev o=some v):gT P ρ m N (execOp oJ o) v m w:=by
 unfold dp at h
 split at h
 ·rename_i hp;rw[Array.all_eq_true']at hp;have he:execOp oJ o=execOp ev o:=execOp_congr o yi fun x hx=>IZ (hp x hx) (eh x hx)
  rw[he]
  split at h
  ·rename_i u hu
   split at h
   ·rename_i dF;simp only[ah]at h;subst h;exact yX hu ⟨ρ,Left.refl hs,_,cB dF,.inl rfl⟩
   ·cases h
  ·cases h
 ·cases h
theorem xR {ev oJ:cq->af}{ps:Array (Nat×cq)}(eh:∀x∈(ps.toList.map (·.2)).toArray,bg ρ (ev x) (oJ x)):
  bM (fun(a b:Nat×af)=>b.1=a.1/\bg ρ a.2 b.2) (ps.map fun(i,x)=>(i,ev x)).toList (ps.map fun(i,x)=>(i,oJ x)).toList:=by
 simp only[Array.toList_map];refine bM.oY fun x hx=>⟨rfl,eh _ ?_⟩
 simp only[List.mem_toArray,List.mem_map];exact⟨x,hx,rfl⟩
theorem LB {ev oJ:cq->af}{x:Option cq}(eh:∀y∈x,bg ρ (ev y) (oJ y)):FX ρ (x.map ev) (x.map oJ):=by
 cases x with
 |none=>trivial
 |some y=>exact eh y rfl
set_option maxHeartbeats 2000000 in
theorem De{ev oJ:cq->af}{o:hZ}(hs:fO ρ m w)(hN:N<=w.heap.size)(eh:∀x∈o.op.operands,bg ρ (ev x) (oJ x))(h:dJ P ev o m=some (v,m')):gT P ρ m N (execOp oJ o) v m' w:=by
 have dF:(∀cs b,o.op≠ .select cs b)->(dp P ev o).map (fun v=>(v,m))=some (v,m')->gT P ρ m N (execOp oJ o) v m' w:=by
  intro yi hm;obtain⟨u,hu,he⟩:=ar.1 hm;simp only[aC]at he;obtain⟨rfl,rfl⟩:=he;exact Cz eh yi hs hu
 unfold dJ at h
 split at h
 ·
  rename_i x ho;simp only[ho,Op.operands]at eh;simp only[ah,aC]at h;obtain⟨rfl,rfl⟩:=h;simp only[execOp,ho];exact gT.now hs (eh x cK)
 ·rename_i x ho;simp only[ho,Op.operands]at eh;simp only[ah,aC]at h;obtain⟨rfl,rfl⟩:=h;simp only[execOp,ho];exact gT.now hs (eh x cK)
 ·
  rename_i c a b ho;simp only[ho,Op.operands]at eh
  split at h
  ·rename_i t hc;simp only[ah,aC]at h;obtain⟨rfl,rfl⟩:=h;have h1:=eh c cK;rw[hc]at h1;have h1:=(aL (by rfl)).1 h1;simp only[execOp,ho,h1,asBool,pure_bind];refine gT.now hs ?_;cases t
   ·exact eh b cK
   ·exact eh a cK
  ·cases h
 ·
  rename_i e ho;obtain⟨z,hz,he⟩:=ar.1 h;simp only[cG,aC]at he;obtain⟨rfl,rfl⟩:=he;simp only[execOp,ho];refine gT.val fun hq=>?_
  unfold Instr.alloc;rw[az];refine fh hz ?_
  show er P (aB ρ m) N (do let a<-newVar e z;pure (af.pointer (some a))) _ w
  rw[az];exact A2 hs (sz:=0) (xE hz) fun w' bH hL hv=>hq _ _ _ hL hv
 ·
  rename_i e x ho;simp only[ho,Op.operands]at eh;simp only[cG,ah,aC]at h;obtain⟨rfl,rfl⟩:=h;simp only[execOp,ho];refine gT.val fun hq=>?_
  unfold Instr.box
  show er P (aB ρ m) N (do let a<-newVar e (oJ x);pure (af.pointer (some a))) _ w
  rw[az];exact A2 hs (sz:=0) (eh x cK).cells fun w' bH hL hv=>hq _ _ _ hL hv
 ·
  rename_i t ps ho;simp only[ho,Op.operands]at eh;obtain⟨u,hu,he⟩:=ar.1 h;simp only[aC]at he;obtain⟨rfl,rfl⟩:=he;simp only[execOp,ho];exact gT.ja hs fun hq=>FO (xR eh) hu hq
 ·
  rename_i t n ps ho;simp only[ho,Op.operands]at eh;simp only[execOp,ho];exact gT.val fun hq=>xo hs (xR eh) h hq
 ·
  rename_i t a ho;simp only[ho,Op.operands]at eh;obtain⟨u,hu,he⟩:=ar.1 h;simp only[aC]at he;obtain⟨rfl,rfl⟩:=he;simp only[execOp,ho];exact gT.ja hs fun hq=>zc hs (eh a cK) hu hq
 ·
  rename_i t a x ho;simp only[ho,Op.operands]at eh;obtain⟨u,hu,he⟩:=ar.1 h;simp only[aC]at he;obtain⟨rfl,rfl⟩:=he;simp only[execOp,ho];exact gT.unit fun hq=>Eu hs (eh a cK) (eh x cK) hu hq
 ·
  rename_i x ho;simp only[ho,Op.operands]at eh;have h1:=eh x cK
  split at h
  ·rename_i a hx;simp only[ah,aC]at h;obtain⟨rfl,rfl⟩:=h;rw[hx]at h1;have h2:=cW.1 h1;obtain⟨p,_,_,h3⟩:=h2;simp only[execOp,ho,h3];rw[h3]at h1;exact gT.now hs h1
  ·rename_i name first cap hx
   split at h
   ·rename_i r hr
    split at h
    ·rename_i hm;simp only[ah,aC]at h;obtain⟨rfl,rfl⟩:=h;rw[hx]at h1;obtain⟨f',c',h3,hf,nI⟩:=gZ.1 h1;obtain⟨⟨f,recv⟩,hm⟩:=qF.1 hm;obtain⟨r',Dv,hrr⟩:=hf.get (i:=0) (by simpa using hr);obtain⟨t,u,u',i,mt,e,rfl,rfl,_,hu,hi,_,hmt,hp,Ga⟩:=y6 hrr hm;simp only[execOp,ho,h3];rw[h3]at h1;have alK:(f'[0]?:Option af)=some (.iface t u'):=by simpa using Dv
     rw[alK];unfold gT;simp only[];rw[az]
     show er P (aB ρ m) N (nilAhead (P.types.size+Made.depth) t u' name>>=_) _ w
     rw[az];have hd:∃k,P.types.size+Made.depth=k+1:=by
      have :Made.depth≠0:=dB;exact⟨P.types.size+Made.depth-1,av⟩
     obtain⟨k,hk⟩:=hd;rw[hk];refine zJ hi hmt hp Ga ?_;exact⟨ρ,Left.refl hs,_,h1,.inl rfl⟩
    ·cases h
   ·cases h
  ·cases h
 ·
  rename_i op t x y q ho;have yi:∀cs b,o.op≠ .select cs b:=fun cs b hc=>by rw[ho]at hc;cases hc
  have hx:bg ρ (ev x) (oJ x):=eh x (by rw[ho];simp[Op.operands]);have hy:bg ρ (ev y) (oJ y):=eh y (by rw[ho];simp[Op.operands])
  split at h
  ·split at h
   ·rename_i b hb;simp only[ah,aC]at h;obtain⟨rfl,rfl⟩:=h;obtain⟨g1,g2,g3⟩:=zr (N:=N) (w:=w) (R:=aB ρ m) hx hy hb;simp only[execOp,ho];refine gT.ja hs fun hq=>?_
    rw[az];refine g2 _ ?_;rw[g3];simp only[];rw[az];exact g1 (hq _ (cB rfl))
   ·exact dF yi h
  ·split at h
   ·rename_i b hb;simp only[ah,aC]at h;obtain⟨rfl,rfl⟩:=h;obtain⟨g1,g2,g3⟩:=zr (N:=N) (w:=w) (R:=aB ρ m) hx hy hb;simp only[execOp,ho];refine gT.ja hs fun hq=>?_
    rw[az];refine g2 _ ?_;rw[g3];simp only[];rw[az];exact g1 (hq _ (cB rfl))
   ·exact dF yi h
  ·exact dF yi h
 ·
  rename_i ho;exact dF (fun cs b hc=>by rw[ho]at hc;cases hc) h
 ·
  rename_i s d x ho
  split at h
  ·rename_i r hr;simp only[ah]at h;subst h;simp only[execOp,ho];exact gT.val fun hq=>BS hs hN (eh x (by rw[ho];simp[Op.operands])) hr hq
  ·exact dF (fun cs b hc=>by rw[ho]at hc;cases hc) h
 ·
  rename_i t x ho;simp only[ho,Op.operands]at eh
  split at h
  ·cases h
  ·rename_i d hni hd;simp only[ah,aC]at h;obtain⟨rfl,rfl⟩:=h;simp only[execOp,ho];refine gT.ja hs fun hq=>?_
   unfold Instr.makeInterface;rw[az];refine aK hd ?_;have :=hq _ (iA.2 ⟨_,rfl,eh x cK⟩);cases d with
   |interface ms=>exact(hni _ rfl).elim
   |_=>exact this
  ·cases h
 ·
  rename_i fn f c ho;simp only[ho,Op.operands]at eh;simp only[ah,aC]at h;obtain⟨rfl,rfl⟩:=h;simp only[execOp,ho];refine gT.ja hs fun hq=>?_
  refine hq _ (gZ.2 ⟨_,_,rfl,?_,?_⟩)
  ·simp only[Array.toList_map];exact bM.oY fun x hx=>eh x (by simp;exact .inl (by simpa using hx))
  ·simp only[Array.toList_map];exact bM.oY fun x hx=>eh x (by simp;exact .inr (by simpa using hx))
 ·
  rename_i t ho;simp only[ah,aC]at h;obtain⟨rfl,rfl⟩:=h;simp only[execOp,ho];refine gT.val fun hq=>?_
  refine hq _ _ _ (hs.LM (o:= .map #[] 0) (.inl rfl) (fun _=>⟨#[],rfl,trivial⟩) fun h=>by cases h) (kO.2 ⟨_,dL.kR ..,rfl⟩)
 ·
  rename_i t l c ho;simp only[ho,Op.operands]at eh;simp only[execOp,ho];exact gT.val fun hq=>xW hs (eh l cK) (eh c cK) h hq
 ·
  rename_i t x lo hi ho
  split at h
  ·rename_i u hu;simp only[ah,aC]at h;obtain⟨rfl,rfl⟩:=h;simp only[ho,Op.operands]at eh;simp only[execOp,ho];exact gT.ja hs fun hq=>EB hs (eh x cK) (LB fun y hy=>eh y (by simp_all)) (LB fun y hy=>eh y (by simp_all)) hu hq
  ·exact dF (fun cs b hc=>by rw[ho]at hc;cases hc) h
 ·
  rename_i s x f ho;simp only[ho,Op.operands]at eh;obtain⟨u,hu,he⟩:=ar.1 h;simp only[aC]at he;obtain⟨rfl,rfl⟩:=he;simp only[execOp,ho];exact gT.ja hs fun hq=>yv (eh x cK) hu hq
 ·
  rename_i s x f ho;simp only[ho,Op.operands]at eh;obtain⟨u,hu,he⟩:=ar.1 h;simp only[aC]at he;obtain⟨rfl,rfl⟩:=he;simp only[execOp,ho];exact gT.ja hs fun hq=>FA (eh x cK) hu hq
 ·
  rename_i t x i ho;simp only[ho,Op.operands]at eh;obtain⟨u,hu,he⟩:=ar.1 h;simp only[aC]at he;obtain⟨rfl,rfl⟩:=he;simp only[execOp,ho];exact gT.ja hs fun hq=>yf (eh x cK) (eh i cK) hu hq
 ·
  rename_i t x i ho
  split at h
  ·rename_i u hu;simp only[ah,aC]at h;obtain⟨rfl,rfl⟩:=h;simp only[ho,Op.operands]at eh;simp only[execOp,ho];exact gT.ja hs fun hq=>Fi (eh x cK) (eh i cK) hu hq
  ·exact dF (fun cs b hc=>by rw[ho]at hc;cases hc) h
 ·
  rename_i t x i ok ho;simp only[ho,Op.operands]at eh;obtain⟨u,hu,he⟩:=ar.1 h;simp only[aC]at he;obtain⟨rfl,rfl⟩:=he;simp only[execOp,ho];exact gT.ja hs fun hq=>CD hs (eh x cK) (eh i cK) hu hq
 ·
  rename_i t x k u ho;simp only[ho,Op.operands]at eh;obtain⟨m2,hm,he⟩:=ar.1 h;simp only[aC]at he;obtain⟨rfl,rfl⟩:=he;simp only[execOp,ho];exact gT.unit fun hq=>xV hs (eh x cK) (eh k cK) (eh u cK) hm hq
 ·
  rename_i x t a ok ho;simp only[ho,Op.operands]at eh;obtain⟨u,hu,he⟩:=ar.1 h;simp only[aC]at he;obtain⟨rfl,rfl⟩:=he;simp only[execOp,ho];exact gT.ja hs fun hq=>vT (eh x cK) hu hq
 ·
  rename_i t i ho;simp only[ho,Op.operands]at eh
  split at h
  ·rename_i vs OF;obtain⟨u,hu,he⟩:=ar.1 h;simp only[aC]at he;obtain⟨rfl,rfl⟩:=he;have h1:=eh t cK;rw[OF]at h1;obtain⟨qJ,h2,h3⟩:=fE.1 h1;obtain⟨u',Sk,hr⟩:=h3.get (by simpa using hu);simp only[execOp,ho,h2];refine gT.ja hs fun hq=>?_
   unfold Instr.extract;simp only[show qJ[i]?=some u' by simpa using Sk];exact hq _ hr
  ·cases h
 ·
  rename_i t x ho;simp only[ho,Op.operands]at eh;simp only[execOp,ho];exact gT.val fun hq=>EJ hs (eh x cK) h hq
 ·
  rename_i it s ho;simp only[ho,Op.operands]at eh;simp only[execOp,ho];exact gT.val fun hq=>Hh hs (eh it cK) h hq
 ·
  rename_i b args lG ho;have hb:∀x∈args,bg ρ (ev x) (oJ x):=fun x hx=>eh x (by rw[ho];simp[Op.operands,Call.operands,hx])
  have yi:∀cs b,o.op≠ .select cs b:=fun cs b hc=>by rw[ho]at hc;cases hc
  split at h
  ·rename_i s x ha;have uM:args.map oJ=#[oJ s,oJ x]:=by apply Array.ext';simp[ha]
   have h1:=hb s (by rw[<-Array.mem_toList_iff,ha];simp);have h2:=hb x (by rw[<-Array.mem_toList_iff,ha];simp);simp only[execOp,ho,resolve,pure_bind,invoke,builtin,uM];exact gT.val fun hq=>CV hs h1 h2 h hq
  ·rename_i s x ha;have uM:args.map oJ=#[oJ s,oJ x]:=by apply Array.ext';simp[ha]
   have h1:=hb s (by rw[<-Array.mem_toList_iff,ha];simp);have h2:=hb x (by rw[<-Array.mem_toList_iff,ha];simp);simp only[execOp,ho,resolve,pure_bind,invoke,builtin,uM];exact gT.val fun hq=>H6 hs h1 h2 h hq
  ·rename_i x ha;have uM:args.map oJ=#[oJ x]:=by apply Array.ext';simp[ha]
   have h2:=hb x (by rw[<-Array.mem_toList_iff,ha];simp);simp only[execOp,ho,resolve,pure_bind,invoke,builtin,uM];exact gT.val fun hq=>FK hs h2 h hq
  ·rename_i x ha;have uM:args.map oJ=#[oJ x]:=by apply Array.ext';simp[ha]
   have h2:=hb x (by rw[<-Array.mem_toList_iff,ha];simp)
   split at h
   ·rename_i e base n c he hx;simp only[ah,aC]at h;obtain⟨rfl,rfl⟩:=h;rw[hx]at h2;obtain⟨tD,iz,h3,_⟩:=qd.of h2;obtain⟨st,Kw,fp⟩:=ay.1 he;simp only[execOp,ho,resolve,pure_bind,invoke,builtin,uM];refine gT.ja hs fun hq=>?_
    unfold Builtin.len_;simp only[Kw,h3,List.getElem?_toArray,List.getElem?_cons_zero];rw[az];refine aK fp ?_;exact hq _ (cB rfl)
   ·exact dF yi h
  ·exact dF yi h
  ·exact dF yi h
  ·cases h
 ·cases h
end
end Go.AM
namespace Go.AM
open Go
def F4 (m:Mem)(b:Nat)(k':mn):Prop:=
 m.next<=b\/(m.base<=b/\aS m.bO b=false/\(m.floor<=b\/jC m.opn b=true)/\k'.kind=0)\/
 (m.home<=b/\aS m.bO b=false/\(m.blk b).kind≠1/\k'.kind=(m.blk b).kind)\/
 (m.base<=b/\(m.blk b).kind=1/\k'.kind=1/\k'.sz=(m.blk b).sz/\k'.pos=(m.blk b).pos/\k'.cs.length=(m.blk b).cs.length/\
  ∀o:Nat,k'.cs[o]?≠(m.blk b).cs[o]?->bG m.bO b o=false/\(m.floor<=b\/bG m.opn b o=true))
structure Fr (m m':Mem):Prop where
 rest:m'={m with heap:=m'.heap,next:=m'.next,tick:=m'.tick,deaf:=m'.deaf}
 tick:m.tick<=m'.tick
 next:m.next<=m'.next
 blk:∀b,m'.blk b=m.blk b\/(m.tick<=(m'.blk b).bw/\F4 m b (m'.blk b))
section
variable {m m₁ m₂:Mem}
theorem Fr.refl(m:Mem):Fr m m:=⟨rfl,ai _,ai _,fun _=> .inl rfl⟩
theorem Fr.bO(h:Fr m m₁):m₁.bO=m.bO:=by rw[h.rest]
theorem Fr.home(h:Fr m m₁):m₁.home=m.home:=by rw[h.rest]
theorem Fr.base(h:Fr m m₁):m₁.base=m.base:=by rw[h.rest]
theorem Fr.floor(h:Fr m m₁):m₁.floor=m.floor:=by rw[h.rest]
theorem Fr.opn(h:Fr m m₁):m₁.opn=m.opn:=by rw[h.rest]
theorem Fr.wg(h:Fr m m₁):m₁.wg=m.wg:=by rw[h.rest]
theorem Fr.pend(h:Fr m m₁):m₁.pend=m.pend:=by rw[h.rest]
theorem Fr.trans(h:Fr m m₁)(k:Fr m₁ m₂):Fr m m₂:=by
 refine⟨?_,cM h.tick k.tick,cM h.next k.next,fun b=>?_⟩
 ·rw[k.rest,h.rest]
 ·have e1:=h.bO;have e2:=h.home;have e3:=h.base;have e4:=h.floor;have e5:=h.opn;rcases k.blk b with hk|⟨Dy,Ms⟩
  ·rw[hk];exact h.blk b
  ·refine .inr ⟨cM h.tick Dy,?_⟩;unfold F4 at Ms;rw[e1,e2,e3,e4,e5]at Ms;have hn:=h.next;rcases h.blk b with hb|⟨_,hb⟩
   ·rw[hb]at Ms;rcases Ms with h1|h1
    ·exact .inl av
    ·exact .inr h1
   ·rcases Ms with h1|h1|⟨h1,h2,h3,h4⟩|⟨h1,h2,h3,h4,h4p,h5,h6⟩
    ·exact .inl av
    ·exact .inr (.inl h1)
    ·rcases hb with g|g|⟨g1,g2,g3,g4⟩|⟨g1,g2,g3,_,_⟩
     ·exact .inl g
     ·exact .inr (.inl ⟨g.1,g.2.1,g.2.2.1,by rw[h4,g.2.2.2]⟩)
     ·exact .inr (.inr (.inl ⟨g1,g2,g3,by rw[h4,g4]⟩))
     ·exact absurd g3 h3
    ·rcases hb with g|g|⟨g1,g2,g3,g4⟩|⟨g1,g2,g3,g4,g4p,g5,g6⟩
     ·exact .inl g
     ·exact absurd (g.2.2.2.symm.trans h2) cK
     ·exact absurd (g4.symm.trans h2) g3
     ·refine .inr (.inr (.inr ⟨g1,g2,h3,h4.trans g4,h4p.trans g4p,h5.trans g5,fun o ho=>?_⟩))
      by_cases hc:(m₂.blk b).cs[o]?=(m₁.blk b).cs[o]?
      ·exact g6 o (by rw[<-hc];exact ho)
      ·exact h6 o hc
theorem Fr.alloc(m:Mem)(k:mn):Fr m (m.alloc k):=by
 refine⟨rfl,cK,cK,fun b=>?_⟩;rw[Mem.cD]
 split
 ·rename_i h;exact .inr ⟨ai _,.inl av⟩
 ·exact .inl rfl
theorem Fr.bE{b:Nat}{k:mn}(h:F4 m b {k with bw:=m.tick}):Fr m (m.bE b k):=by
 refine⟨rfl,cK,cK,fun b'=>?_⟩;rw[Mem.eK]
 split
 ·rename_i e;subst e;exact .inr ⟨ai _,h⟩
 ·exact .inl rfl
theorem Fr.dS{b o:Nat}{vs:List af}(h:m.dS b o vs=some m₁):Fr m m₁:=by
 obtain⟨cs,rfl,hk,HO,Bm,_⟩:=Mem.pQ h;obtain⟨hl,hg,_⟩:=lU Bm;refine Fr.bE (.inr (.inr (.inr ⟨Mem.kS HO,hk,hk,rfl,rfl,hl,fun x hx=>?_⟩)));have uu:cs[x]?≠(m.blk b).cs[x]?:=hx;rw[hg]at uu
 split at uu
 ·rename_i pI;have :=Mem.qm HO (i:=x-o) av;rwa[show o+(x-o)=x by omega]at this
 ·exact absurd rfl uu
theorem Fr.own{b:Nat}(h:m.gv b=true):Fr m (m.bE b {}):=
 Fr.bE (.inr (.inl ⟨Mem.rH h,(Mem.lY h).1,(Mem.lY h).2,rfl⟩))
theorem Mem.lX{b:Nat}(h:m.bU b=true):aS m.bO b=false/\m.home<=b:=by
 unfold Mem.bU at h;simpa using h
theorem Fr.obj{b:Nat}{k:mn}(h:m.bU b=true)(hk:(m.blk b).kind≠1)(Uk:k.kind=(m.blk b).kind):Fr m (m.bE b k):=
 Fr.bE (.inr (.inr (.inl ⟨(Mem.lX h).2,(Mem.lX h).1,hk,Uk⟩)))
def mn.live(k:mn):Prop:=(∀x∈k.cs,x≠none)/\k.kind<=3
structure Wf (m:Mem):Prop where
 bw:∀b,(m.blk b).bw<m.tick
 DL:∀b,m.next<=b->(m.blk b).kind=0
 bO:∀s∈m.bO,s.2.1<=m.next
 fl:m.floor<=m.next
 live:∀b,(m.blk b).live
theorem Wf.alloc(h:Wf m)(k:mn)(YJ:k.live):Wf (m.alloc k):=by
 refine⟨fun b=>?_,fun b hb=>?_,fun s hs=>Nat.le_succ_of_le (h.bO s hs),Nat.le_succ_of_le h.fl,fun b=>?_⟩
 ·rw[Mem.cD]
  split
  ·show m.tick<m.tick+1;omega
  ·have :=h.bw b;show _<m.tick+1;omega
 ·have gN:m.next+1<=b:=hb;rw[Mem.cD,bT av];exact h.DL b av
 ·rw[Mem.cD]
  split
  ·exact YJ
  ·exact h.live b
theorem Wf.bE(h:Wf m){b:Nat}{k:mn}(hk:(m.blk b).kind≠0\/k.kind=0)(YJ:k.live):Wf (m.bE b k):=by
 refine⟨fun b'=>?_,fun b' hb=>?_,h.bO,h.fl,fun b'=>?_⟩
 ·rw[Mem.eK]
  split
  ·show m.tick<m.tick+1;omega
  ·have :=h.bw b';show _<m.tick+1;omega
 ·rw[Mem.eK]
  split
  ·rename_i e;subst e;rcases hk with hk|hk
   ·exact absurd (h.DL b hb) hk
   ·exact hk
  ·exact h.DL b' hb
 ·rw[Mem.eK]
  split
  ·exact YJ
  ·exact h.live b'
def jD (m m':Mem):Prop:=Fr m m'/\m'.deaf=m.deaf/\(Wf m->Wf m')
theorem jD.refl(m:Mem):jD m m:=⟨Fr.refl m,rfl,id⟩
theorem jD.trans(h:jD m m₁)(k:jD m₁ m₂):jD m m₂:=⟨h.1.trans k.1,k.2.1.trans h.2.1,fun x=>k.2.2 (h.2.2 x)⟩
theorem jD.alloc(m:Mem)(k:mn)(hk:k.live):jD m (m.alloc k):=⟨Fr.alloc m k,rfl,fun h=>h.alloc k hk⟩
theorem jD.dS{b o:Nat}{vs:List af}(h:m.dS b o vs=some m₁):jD m m₁:=by
 refine⟨Fr.dS h,?_⟩;obtain⟨cs,rfl,hk,HO,Bm,_⟩:=Mem.pQ h;obtain⟨hl,hg,_⟩:=lU Bm;refine⟨rfl,fun hw=>hw.bE (.inl (by rw[hk];simp)) ⟨fun x hx=>?_,by show(m.blk b).kind<=3;omega⟩⟩;have hx:x∈cs:=hx;obtain⟨i,hi⟩:=List.getElem?_of_mem hx;rw[hg]at hi
 split at hi
 ·rename_i pI;obtain⟨v,hv⟩:∃v,vs[i-o]?=some v:=⟨vs[i-o]'av,List.getElem?_eq_getElem av⟩;rw[hv]at hi;simp at hi;rw[<-hi];simp
 ·exact(hw.live b).1 x (List.mem_of_getElem? hi)
theorem jD.own{b:Nat}(h:m.gv b=true):jD m (m.bE b {}):=⟨Fr.own h,rfl,fun hw=>hw.bE (.inr rfl) ⟨(by intro x hx;cases hx),Nat.zero_le _⟩⟩
theorem jD.obj{b:Nat}{k:mn}(h:m.bU b=true)(hk:(m.blk b).kind≠1)(Mt:(m.blk b).kind≠0)(Uk:k.kind=(m.blk b).kind)(jB:k.cs=(m.blk b).cs):jD m (m.bE b k):=⟨Fr.obj h hk Uk,rfl,fun hw=>hw.bE (.inl Mt) ⟨fun x hx=>(hw.live b).1 x (jB▸hx),by rw[Uk];exact(hw.live b).2⟩⟩
variable {P:aE}{v:af}
theorem K9 {lG:Array aW}{s x:af}(h:cV P lG s x m=some (v,m₁)):jD m m₁:=by
 unfold cV at h
 split at h
 ·split at h
  ·split at h
   ·cases h
   ·split at h
    ·cases h
    ·split at h
     ·split at h
      ·simp only[]at h
       split at h
       ·rename_i hk;simp only[aj,beq_iff_eq]at hk
        split at h
        ·simp only[ah,aC]at h;obtain⟨_,rfl⟩:=h;exact(jD.own hk.1.2).trans (jD.alloc _ _ (by refine And.intro ?_ cK;intro x hx;first |(cases hx;done)|(obtain⟨y,_,hy⟩:=List.mem_map.1 hx;rw[<-hy];simp)))
        ·cases h
       ·cases h
      ·cases h
     ·split at h
      ·split at h
       ·obtain⟨m2,xC,he⟩:=ar.1 h;simp only[aC]at he;obtain⟨_,rfl⟩:=he;exact jD.dS xC
       ·simp only[ah,aC]at h;obtain⟨_,rfl⟩:=h;exact jD.refl _
       ·cases h
      ·split at h
       ·split at h
        ·simp only[ah,aC]at h;obtain⟨_,rfl⟩:=h;exact jD.alloc _ _ (by refine And.intro ?_ cK;intro x hx;first |(cases hx;done)|(obtain⟨y,_,hy⟩:=List.mem_map.1 hx;rw[<-hy];simp))
        ·cases h
       ·cases h
  ·cases h
 ·cases h
theorem Tv {lG:Array aW}{d s:af}(h:D1 P lG d s m=some (v,m₁)):jD m m₁:=by
 unfold D1 at h
 split at h
 ·split at h
  ·split at h
   ·obtain⟨_,_,h⟩:=ay.1 h
    split at h
    ·obtain⟨m2,xC,he⟩:=ar.1 h;simp only[aC]at he;obtain⟨_,rfl⟩:=he;exact jD.dS xC
    ·simp only[ah,aC]at h;obtain⟨_,rfl⟩:=h;exact jD.refl _
    ·cases h
   ·cases h
  ·cases h
 ·cases h
theorem O6 {lG:Array aW}{x:af}(h:nW P lG x m=some (v,m₁)):jD m m₁:=by
 unfold nW at h
 split at h
 ·split at h
  ·simp only[ah,aC]at h;obtain⟨_,rfl⟩:=h;exact jD.refl _
  ·split at h
   ·simp only[ah,aC]at h;obtain⟨_,rfl⟩:=h;exact jD.refl _
   ·obtain⟨_,_,h⟩:=ay.1 h;obtain⟨m2,xC,he⟩:=ar.1 h;simp only[aC]at he;obtain⟨_,rfl⟩:=he;exact jD.dS xC
  ·cases h
 ·cases h
theorem H7 {s d:aW}{x:af}(h:ej P s d x m=some (v,m₁)):jD m m₁:=by
 unfold ej at h
 split at h
 ·simp only[]at h
  split at h
  ·split at h
   ·simp only[ah,aC]at h;obtain⟨_,rfl⟩:=h;exact jD.refl _
   ·cases h
  ·cases h
 ·split at h
  ·split at h
   ·cases h
   ·simp only[ah,aC]at h;obtain⟨_,rfl⟩:=h;exact jD.alloc _ _ (by refine And.intro ?_ cK;intro x hx;first |(cases hx;done)|(obtain⟨y,_,hy⟩:=List.mem_map.1 hx;rw[<-hy];simp))
  ·cases h
 ·split at h
  ·simp only[ah,aC]at h;obtain⟨_,rfl⟩:=h;exact jD.refl _
  ·obtain⟨_,_,h⟩:=ay.1 h;obtain⟨_,_,h⟩:=ar.1 h;simp only[aC]at h;obtain⟨_,rfl⟩:=h;exact jD.refl _
  ·cases h
 ·cases h
theorem CB {t:aW}{x k u:af}(h:lC P t x k u m=some m₁):jD m m₁:=by
 unfold lC at h
 split at h
 ·split at h
  ·simp only[]at h
   split at h
   ·rename_i hc;simp only[aj,beq_iff_eq]at hc;have h1:=hc.1.1;have h2:=hc.1.2
    split at h
    ·simp only[ah]at h;subst h;exact jD.obj h2 av av rfl rfl
    ·simp only[ah]at h;subst h;exact jD.obj h2 av av rfl rfl
   ·cases h
  ·cases h
 ·cases h
theorem Nt {t:aW}{x:af}(h:xP P t x m=some (v,m₁)):jD m m₁:=by
 unfold xP at h
 split at h
 ·simp only[ah,aC]at h;obtain⟨_,rfl⟩:=h;exact jD.alloc _ _ (by refine And.intro ?_ cK;intro x hx;first |(cases hx;done)|(obtain⟨y,_,hy⟩:=List.mem_map.1 hx;rw[<-hy];simp))
 ·cases h
theorem QX {it:af}{s:Bool}(h:Dl it s m=some (v,m₁)):jD m m₁:=by
 unfold Dl at h
 split at h
 ·simp only[]at h
  split at h
  ·rename_i hc;simp only[aj,beq_iff_eq]at hc
   split at h
   ·simp only[ah,aC]at h;obtain⟨_,rfl⟩:=h;exact jD.obj hc.2 av av rfl rfl
   ·simp only[ah,aC]at h;obtain⟨_,rfl⟩:=h;exact jD.refl _
  ·cases h
 ·cases h
theorem gV {o:Option af}(h:o.map (fun v=>(v,m))=some (v,m₁)):jD m m₁:=by
 obtain⟨_,_,he⟩:=ar.1 h;simp only[aC]at he;obtain⟨_,rfl⟩:=he;exact jD.refl _
theorem lr {u:af}(h:some (u,m)=some (v,m₁)):jD m m₁:=by
 simp only[ah,aC]at h;obtain⟨_,rfl⟩:=h;exact jD.refl _
theorem Nj {t:aW}{p x:af}(h:uW P t p x m=some m₁):jD m m₁:=by
 unfold uW at h
 split at h
 ·split at h
  ·exact jD.dS h
  ·cases h
 ·cases h
theorem yZ {sz:Nat}{cs:List af}(h:cG m sz cs=(v,m₁)):jD m m₁:=by
 simp only[cG,aC]at h;obtain⟨_,rfl⟩:=h;exact jD.alloc _ _ (by refine And.intro ?_ cK;intro x hx;first |(cases hx;done)|(obtain⟨y,_,hy⟩:=List.mem_map.1 hx;rw[<-hy];simp))
theorem ME {o:Option Mem}(ho:∀m₂,o=some m₂->jD m m₂)(h:o.map (fun m'=>(undef,m'))=some (v,m₁)):jD m m₁:=by
 obtain⟨m2,hm,he⟩:=ar.1 h;simp only[aC]at he;obtain⟨_,rfl⟩:=he;exact ho _ hm
theorem B8 {t:aW}{n:Nat}{ps:List (Nat×af)}(h:ao P t n ps m=some (v,m₁)):jD m m₁:=by
 unfold ao at h
 split at h
 ·split at h
  ·split at h
   ·cases h
   ·obtain⟨_,_,he⟩:=ar.1 h;simp only[aC]at he;obtain⟨_,rfl⟩:=he;exact jD.alloc _ _ (by refine And.intro ?_ cK;intro x hx;first |(cases hx;done)|(obtain⟨y,_,hy⟩:=List.mem_map.1 hx;rw[<-hy];simp))
  ·cases h
 ·cases h
theorem CC {t:aW}{l c:af}(h:gh P t l c m=some (v,m₁)):jD m m₁:=by
 unfold gh at h
 split at h
 ·split at h
  ·split at h
   ·simp only[ah,aC]at h;obtain⟨_,rfl⟩:=h;exact jD.alloc _ _ (by refine And.intro ?_ cK;intro x hx;first |(cases hx;done)|(obtain⟨y,_,hy⟩:=List.mem_map.1 hx;rw[<-hy];simp))
   ·cases h
  ·cases h
 ·cases h
set_option maxHeartbeats 1000000 in
theorem QE{ev:cq->af}{o:hZ}(h:dJ P ev o m=some (v,m₁)):jD m m₁:=by
 unfold dJ at h
 split at h
 ·exact lr h
 ·exact lr h
 ·split at h
  ·exact lr h
  ·cases h
 ·obtain⟨z,hz,he⟩:=ar.1 h;exact yZ he
 ·exact yZ (Option.some.inj h)
 ·exact gV h
 ·exact B8 h
 ·exact gV h
 ·exact ME (fun _ hm=>Nj hm) h
 ·split at h
  ·exact lr h
  ·split at h
   ·split at h
    ·exact lr h
    ·cases h
   ·cases h
  ·cases h
 ·split at h
  ·split at h
   ·exact lr h
   ·exact gV h
  ·split at h
   ·exact lr h
   ·exact gV h
  ·exact gV h
 ·exact gV h
 ·split at h
  ·rename_i hr;exact H7 (hr.trans h)
  ·exact gV h
 ·split at h
  ·cases h
  ·exact lr h
  ·cases h
 ·exact lr h
 ·simp only[ah,aC]at h;obtain⟨_,rfl⟩:=h;exact jD.alloc _ _ (by refine And.intro ?_ cK;intro x hx;first |(cases hx;done)|(obtain⟨y,_,hy⟩:=List.mem_map.1 hx;rw[<-hy];simp))
 ·exact CC h
 ·split at h
  ·exact lr h
  ·exact gV h
 ·exact gV h
 ·exact gV h
 ·exact gV h
 ·split at h
  ·exact lr h
  ·exact gV h
 ·exact gV h
 ·exact ME (fun _ hm=>CB hm) h
 ·exact gV h
 ·split at h
  ·exact gV h
  ·cases h
 ·exact Nt h
 ·exact QX h
 ·split at h
  ·exact K9 h
  ·exact Tv h
  ·exact O6 h
  ·split at h
   ·exact lr h
   ·exact gV h
  ·exact gV h
  ·exact gV h
  ·cases h
 ·cases h
end
end Go.AM
namespace Go.AM
open Go
structure dA where
 ok:Perm->aA->Prop
inductive Sub where
 |opn(V:Nat)|added(V:Nat)|seen(vs:Nat)|reg|S6|fin
structure GS where
 Wg:Nat
 uH:List dA
 sub:Sub
inductive nq where
 |Ap
 |idle
 |fS(g:GS)
structure ac0 (s:zV)(mk:Mem):Prop where
 heap:mk.heap=s.heap
 next:mk.next=s.hi
 opn:mk.opn=s.om
 bO:mk.bO=s.bO
 home:mk.home=s.lo
 floor:mk.floor=s.lo
 base:mk.base<=s.lo
def postOf (s:zV)(Nc:dL):dA:=
 ⟨fun R w=>∃xD mk,ac0 s mk/\(∀b,b<s.lo->xD b=Nc b)/\fO xD mk w/\(∀b o,(aB xD mk).rd b o->R.rd b o)/\(∀b,(aB xD mk).ob b->R.ob b)/\∀b o,(aB xD mk).wr b o->R.wr b o⟩
def mn.alike(k k':mn):Prop:=k.kind=k'.kind/\k.sz=k'.sz/\k.pos=k'.pos/\k.cs=k'.cs/\(k.kind≠1->k.es=k'.es/\k.clock=k'.clock/\k.str=k'.str)
def Mem.AF(m:Mem)(h:kZ)(s:Span):Prop:=
 ∀b,s.1<=b->b<s.2.1->match s.2.2 with
 |none=>(m.blk b).alike (h.get b)
 |some o=>(m.blk b).kind=1/\(h.get b).kind=1/\(m.blk b).sz=(h.get b).sz/\(m.blk b).pos=(h.get b).pos/\(m.blk b).cs.length=(h.get b).cs.length/\(m.blk b).cs[o]?=(h.get b).cs[o]?
structure SOk (m:Mem)(ρ:dL)(s:zV)(p:dA):Prop where
 post:∃Nc,p=postOf s Nc/\∀b,b<s.lo->ρ b=Nc b
 none:∀b,s.lo<=b->b<s.hi->ρ b=Option.none
 lo:s.lo<=s.hi
 hi:s.hi<=m.floor
 next:s.hi<=m.next
 same:∀x,x=(s.lo,s.hi,Option.none)\/x∈s.om->m.AF s.heap x
 bO:∀x,x=(s.lo,s.hi,Option.none)\/x∈s.om->x∈m.bO
 below:∀x,x=(s.lo,s.hi,Option.none)\/x∈s.om->x.2.1<=m.next
 lb:∀x,x∈s.bO\/x∈s.om->x.2.1<=s.lo
 ap:∀b o,bG s.om b o=true->bG s.bO b o=false
 lk:∀x,x∈s.om->∀b,x.1<=b->b<x.2.1->(s.heap.get b).kind<=1
 live:∀b,(s.heap.get b).live
 kk:∀b,b<s.lo->(m.blk b).kind≠0->(s.heap.get b).kind=(m.blk b).kind
 hm:m.home<=s.lo
def GOk (σ:nq)(ρ:dL)(m:Mem):Prop:=
 match σ with
 | .Ap=>True
 | .idle=>m.wg=none/\m.pend=[]/\m.home<=m.next
 | .fS g=>g.sub= .opn g.uH.length/\g.uH.length<=4/\(m.home<=m.next/\m.base<=m.next)/\∃wa,m.wg=some wa/\wa<m.next/\wa<m.floor/\(∀p,ρ wa=some p->p.c=g.Wg/\p.d=0)/\bM (SOk m ρ) m.pend g.uH/\(∀x∈m.bO,∃s∈m.pend,x=(s.lo,s.hi,Option.none)\/x∈s.om)/\m.pend.Pairwise fun s t=>t.hi<=s.lo
section
variable {m m':Mem}{ρ bH:dL}
theorem mN {l:List Span}{s:Span}(h:s∈l){b o:Nat}(h1:s.1<=b)(h2:b<s.2.1)(h3:s.2.2=none\/s.2.2=some o):bG l b o=true:=by
 unfold bG;rw[List.any_eq_true];refine⟨s,h,?_⟩;simp only[aj,jE];refine⟨⟨h1,h2⟩,?_⟩;rcases h3 with h3|h3<;>rw[h3]<;>simp
theorem pP {l:List Span}{s:Span}(h:s∈l){b:Nat}(h1:s.1<=b)(h2:b<s.2.1):aS l b=true:=by
 unfold aS;rw[List.any_eq_true];exact⟨s,h,by simp[h1,h2]⟩
theorem CP {l:List Span}{s:Span}(h:s∈l){b:Nat}(h1:s.1<=b)(h2:b<s.2.1)(h3:s.2.2=none):∀o,bG l b o=true:=fun o=>mN h h1 h2 (.inl h3)
theorem ma {l:List Span}{b o:Nat}(h:bG l b o=true):aS l b=true:=by
 rcases ht:aS l b with _|_
 ·rw[ei ht]at h;cases h
 ·rfl
theorem yR (h:Fr m m'){x:Span}(hx:x∈m.bO)(hnx:x.2.1<=m.next){hp:kZ}(hs:m.AF hp x):m'.AF hp x:=by
 intro b h1 h2;have hs:=hs b h1 h2
 split
 ·rename_i hn;simp only[hn]at hs;rcases h.blk b with e|⟨_,ha⟩
  ·rw[e];exact hs
  ·have Mh:=pP hx h1 h2;rcases ha with h3|⟨_,h3,_⟩|⟨_,h3,_⟩|⟨_,h3,h4,h5,h6,h7,h8⟩
   ·omega
   ·rw[Mh]at h3;cases h3
   ·rw[Mh]at h3;cases h3
   ·obtain⟨g1,g2,g3,g4,g5⟩:=hs;refine⟨h4.trans (h3.symm.trans g1),h5.trans g2,h6.trans g3,?_,fun hk=>absurd h4 hk⟩;rw[<-g4];refine List.ext_getElem? fun o=>?_
    by_cases hc:(m'.blk b).cs[o]?=(m.blk b).cs[o]?
    ·exact hc
    ·have :=(h8 o hc).1;rw[CP hx h1 h2 hn o]at this;cases this
 ·rename_i o ho;simp only[ho]at hs;obtain⟨g1,g2,g3,g4,g5,g6⟩:=hs;rcases h.blk b with e|⟨_,ha⟩
  ·rw[e];exact⟨g1,g2,g3,g4,g5,g6⟩
  ·have Mh:=pP hx h1 h2;rcases ha with h3|⟨_,h3,_⟩|⟨_,h3,_⟩|⟨_,h3,h4,h5,h6,h7,h8⟩
   ·omega
   ·rw[Mh]at h3;cases h3
   ·rw[Mh]at h3;cases h3
   ·refine⟨h4,g2,h5.trans g3,h6.trans g4,h7.trans g5,?_⟩
    by_cases hc:(m'.blk b).cs[o]?=(m.blk b).cs[o]?
    ·rw[hc];exact g6
    ·have :=(h8 o hc).1;rw[mN hx h1 h2 (.inr ho)]at this;cases this
theorem SOk.fr(h:Fr m m')(hle:ρ.le bH)(hold:∀b,b<m.next->bH b=ρ b){s:zV}{p:dA}(hs:SOk m ρ s p):SOk m' bH s p where
 post:=let⟨Nc,e,hb⟩:=hs.post;⟨Nc,e,fun b hbl=>by rw[hold b (by have :=hs.lo;have :=hs.next;omega)];exact hb b hbl⟩
 none b h1 h2:=by rw[hold b (by have :=hs.next;omega)];exact hs.none b h1 h2
 lo:=hs.lo
 hi:=by rw[h.floor];exact hs.hi
 next:=cM hs.next h.next
 same x hx:=yR h (hs.bO x hx) (hs.below x hx) (hs.same x hx)
 bO x hx:=by rw[h.bO];exact hs.bO x hx
 below x hx:=cM (hs.below x hx) h.next
 lb:=hs.lb
 ap:=hs.ap
 lk:=hs.lk
 live:=hs.live
 kk b hb hk:=by
  rcases h.blk b with e|⟨_,ha⟩
  ·rw[e]at hk⊢;exact hs.kk b hb hk
  ·have :=hs.lo;have :=hs.next;rcases ha with h3|⟨_,_,_,h3⟩|⟨_,_,_,h3⟩|⟨_,h3,h4,_⟩
   ·omega
   ·exact absurd h3 hk
   ·rw[h3];exact hs.kk b hb (by rw[<-h3];exact hk)
   ·rw[h4,<-h3];exact hs.kk b hb (by rw[h3];simp)
 hm:=by rw[h.home];exact hs.hm
theorem GOk.fr(h:Fr m m')(hle:ρ.le bH)(hold:∀b,b<m.next->bH b=ρ b){σ:nq}(hg:GOk σ ρ m):GOk σ bH m':=by
 cases σ with
 |Ap=>trivial
 |idle=>exact⟨h.wg.trans hg.1,h.pend.trans hg.2.1,by rw[h.home];exact cM hg.2.2 h.next⟩
 |fS g=>
  obtain⟨g1,g2,g0,wa,h1,hw,Hz,h2,h3,h4⟩:=hg;refine⟨g1,g2,⟨by rw[h.home];exact cM g0.1 h.next,by rw[h.base];exact cM g0.2 h.next⟩,wa,h.wg.trans h1,bq hw h.next,by rw[h.floor];exact Hz,fun p hp=>h2 p ?_,?_,by rw[h.bO,h.pend];exact h4⟩
  ·rw[<-hold wa hw];exact hp
  ·rw[h.pend];exact h3.mono fun s p hs=>hs.fr h hle hold
theorem GOk.above{σ:nq}(hg:GOk σ ρ m)(h:∀b,b<m.floor->bH b=ρ b):GOk σ bH m:=by
 cases σ with
 |Ap=>trivial
 |idle=>exact hg
 |fS g=>
  obtain⟨g1,g2,g0,wa,h1,hw,Hz,h2,h3,h4⟩:=hg;refine⟨g1,g2,g0,wa,h1,hw,Hz,fun p hp=>h2 p (by rw[<-h wa Hz];exact hp),h3.mono fun s p hs=>?_,h4⟩;exact⟨let⟨Nc,e,hb⟩:=hs.post;⟨Nc,e,fun b hbl=>by rw[h b (by have :=hs.lo;have :=hs.hi;omega)];exact hb b hbl⟩,fun b b1 b2=>by rw[h b (by have :=hs.hi;omega)];exact hs.none b b1 b2,
   hs.lo,hs.hi,hs.next,hs.same,hs.bO,hs.below,hs.lb,hs.ap,hs.lk,hs.live,hs.kk,hs.hm⟩
end
end Go.AM
namespace Go.AM
open Go
abbrev Tm:=N8 (N8 (N8 af))
def de (t:Nat)(tm:Tm):af:=((tm.get (rz t 64)).get (rz t 8)).get (Nat.mod t 8)
def sK (t:Nat)(v:af)(tm:Tm):Tm:=
 tm.put (rz t 64) ((tm.get (rz t 64)).put (rz t 8) (((tm.get (rz t 64)).get (rz t 8)).put (Nat.mod t 8) v))
def IL:List af->af
 | []=>undef
 |x::_=>x
def kI:List af->List af
 | []=>[]
 |_::l=>l
def EF (l:List af):N8 af:=
 ⟨IL l,IL (kI l),IL (kI (kI l)),IL (kI (kI (kI l))),IL (kI (kI (kI (kI l)))),IL (kI (kI (kI (kI (kI l))))),IL (kI (kI (kI (kI (kI (kI l)))))),IL (kI (kI (kI (kI (kI (kI (kI l)))))))⟩
def Pk (l:List af):List af:=kI (kI (kI (kI (kI (kI (kI (kI l)))))))
def pB:N8 af:=N8.all undef
def ny:N8 (N8 af):=N8.all pB
def lR:Tm:=N8.all ny
def Cs (l:List af):Option Tm:=
 match Pk (Pk l)with
 | []=>some ⟨⟨EF l,EF (Pk l),pB,pB,pB,pB,pB,pB⟩,ny,ny,ny,ny,ny,ny,ny⟩
 |_=>none
def ajn {α:Type}(x:α)(n:N8 α):N8 α:=match n with |⟨_,b,c,d,e,f,g,h⟩=>⟨x,b,c,d,e,f,g,h⟩
def ajm {α:Type}(x:α)(n:N8 α):N8 α:=match n with |⟨a,_,c,d,e,f,g,h⟩=>⟨a,x,c,d,e,f,g,h⟩
def ajl {α:Type}(x:α)(n:N8 α):N8 α:=match n with |⟨a,b,_,d,e,f,g,h⟩=>⟨a,b,x,d,e,f,g,h⟩
def ajk {α:Type}(x:α)(n:N8 α):N8 α:=match n with |⟨a,b,c,_,e,f,g,h⟩=>⟨a,b,c,x,e,f,g,h⟩
def ajj {α:Type}(x:α)(n:N8 α):N8 α:=match n with |⟨a,b,c,d,_,f,g,h⟩=>⟨a,b,c,d,x,f,g,h⟩
def aji {α:Type}(x:α)(n:N8 α):N8 α:=match n with |⟨a,b,c,d,e,_,g,h⟩=>⟨a,b,c,d,e,x,g,h⟩
def ajh {α:Type}(x:α)(n:N8 α):N8 α:=match n with |⟨a,b,c,d,e,f,_,h⟩=>⟨a,b,c,d,e,f,x,h⟩
def ajg {α:Type}(x:α)(n:N8 α):N8 α:=match n with |⟨a,b,c,d,e,f,g,_⟩=>⟨a,b,c,d,e,f,g,x⟩
def P' {α β:Type}(i:Nat)(k:(N8 α->α)->(α->N8 α->N8 α)->Option β):Option β:=
 match i with
 |0=>k N8.a ajn
 |1=>k N8.b ajm
 |2=>k N8.c ajl
 |3=>k N8.d ajk
 |4=>k N8.e ajj
 |5=>k N8.f aji
 |6=>k N8.g ajh
 |7=>k N8.h ajg
 |_=>none
abbrev kN:=Tm->af
abbrev Put:=af->Tm->Tm
def amp (f:Tm->N8 (N8 af))(g:N8 (N8 af)->N8 af)(h:N8 af->af):kN:=fun tm=>h (g (f tm))
def aj0 (f:Tm->N8 (N8 af))(g:N8 (N8 af)->N8 af)(F:N8 (N8 af)->Tm->Tm)(G:N8 af->N8 (N8 af)->N8 (N8 af))(H:af->N8 af->N8 af):Put:=
 fun v tm=>F (G (H v (g (f tm))) (f tm)) tm
def Er {β:Type}(t:Nat)(k:kN->Put->Option β):Option β:=
 P' (Nat.div t 64) fun f F=>P' (rz t 8) fun g G=>P' (Nat.mod t 8) fun h H=>k (amp f g h) (aj0 f g F G H)
def KX (v:af):kN:=fun _=>v
def dH (tm:Tm)(x:cq):af:=
 match x with
 | .tmp t=>de t tm
 | .const v=>v
 | .global g=>ptrTo g 0
 | .func f=> .func (.func f) #[] #[]
def eQ {α:Type}(x:cq)(k:kN->Option α):Option α:=
 match x with
 | .tmp t=>Er t fun o _=>k o
 | .const v=>k (KX v)
 | .global g=>k (KX (ptrTo g 0))
 | .func f=>k (KX (.func (.func f) #[] #[]))
def rZ {α:Type}:List cq->(List kN->Option α)->Option α
 | [],k=>k []
 |x::l,k=>eQ x fun o=>rZ l fun os=>k (o::os)
def qV (nt ng:Nat)(x:cq):Bool:=
 match x with
 | .tmp t=>Nat.blt t nt
 | .const v=>plain v
 | .global g=>Nat.blt g ng
 | .func _=>true
abbrev Df:=List (Nat×List af)
structure Ss where
 tm:Tm
 mem:Mem
 df:Df
abbrev Rs:=Option Ss
abbrev Kv:=af->Mem->Df->Rs
abbrev lS:=cL->Tm->Mem->Df->Kv->Rs
abbrev iI:=cL->Tm->Mem->Df->Rs
abbrev F:=cL->Ss->Option (Exit×Ss)
def jK (P:aE)(o:hZ):lS:=fun _ tm m df k=>
 match dJ P (dH tm) o m with
 |some (v,m')=>k v m' df
 |none=>none
def Ro (x:kN):lS:=fun _ tm m df k=>k (x tm) m df
def anr (r:Option af)(m:Mem)(df:Df)(k:Kv):Rs:=
 match r with
 |some v=>k v m df
 |none=>none
def anq (r:Option Mem)(df:Df)(k:Kv):Rs:=
 match r with
 |some m=>k undef m df
 |none=>none
def IQ:List kN->Tm->List af
 | [],_=>[]
 |x::l,tm=>x tm::IQ l tm
def Ii (r:Option (af×Mem))(df:Df)(k:Kv):Rs:=
 match r with
 |some (v,m')=>k v m' df
 |none=>none
def TD (f:Nat)(xs:List kN):lS:=fun call tm m df k=>Ii (call f (IQ xs tm) m) df k
def Ig (x:kN)(xs:List kN):lS:=fun call tm m df k=>
 match x tm with
 | .func (.func f) first cap=>Ii (call f (first.toList++IQ xs tm++cap.toList) m) df k
 |_=>none
def MS (P:aE)(r:kN)(name:String)(xs:List kN):lS:=fun call tm m df k=>
 match eW P (r tm) name with
 |some (f,recv)=>Ii (call f (recv::IQ xs tm) m) df k
 |none=>none
def FH (x:kN)(xs:List kN):lS:=fun _ tm m df k=>
 match x tm with
 | .func (.func f) first cap=>k undef m ((f,first.toList++IQ xs tm++cap.toList)::df)
 |_=>none
def br:Int->Int->Bool
 | .ofNat a,.ofNat b=>Nat.blt a b
 | .ofNat _,.negSucc _=>false
 | .negSucc _,.ofNat _=>true
 | .negSucc a,.negSucc b=>Nat.blt b a
def fW (a b:Int):Bool:=!br b a
def fD (a b:Int):Bool:=br b a
def iE (a b:Int):Bool:=!br a b
def aZ:Int->Int->Bool
 | .ofNat a,.ofNat b=>Nat.beq a b
 | .negSucc a,.negSucc b=>Nat.beq a b
 |_,_=>false
def hY (a b:Int):Bool:=!aZ a b
def ml:Int->Int->Option Nat
 | .ofNat a,.ofNat b=>some (Nat.add a b)
 |_,_=>none
def oe:Int->Int->Option Nat
 | .ofNat a,.ofNat b=>if Nat.ble b a then some (Nat.sub a b)else none
 |_,_=>none
def E0 (_ _:Int):Option Nat:=none
def kT:cQ->Nat
 | .i8=>128
 | .i16=>32768
 | .i32=>2147483648
 | .i64=>9223372036854775808
 | .u8=>256
 | .u16=>65536
 | .u32=>4294967296
 | .u64=>18446744073709551616
def wy:cQ->Nat
 | .i8=>0
 | .i16=>1
 | .i32=>2
 | .i64=>3
 | .u8=>4
 | .u16=>5
 | .u32=>6
 | .u64=>7
def CQ (f:Int->Int->Bool)(x y:kN):lS:=fun _ tm m df k=>
 match x tm with
 | .int a i=>match y tm with
  | .int b j=>if Nat.beq (wy a) (wy b)then k (.bool (f i j)) m df else none
  |_=>none
 |_=>none
def arF (q:Int->Int->Option Nat)(f:Int->Int->Int)(x y:kN):lS:=fun _ tm m df k=>
 match x tm with
 | .int a i=>match y tm with
  | .int b j=>if Nat.beq (wy a) (wy b)then
    match q i j with
    |some n=>if Nat.blt n (kT a)then k (.int a (.ofNat n)) m df else k (.int a (a.wrap (f i j))) m df
    |none=>k (.int a (a.wrap (f i j))) m df
   else none
  |_=>none
 |_=>none
def xI (want:Bool)(x y:kN):lS:=fun _ tm m df k=>
 match x tm with
 | .string a=>match y tm with
  | .string b=>k (.bool ((a.toList==b.toList)==want)) m df
  |_=>none
 |_=>none
def Xt (x y:kN):lS:=fun _ tm m df k=>
 match x tm with
 | .string a=>match y tm with
  | .string b=>if Nat.blt (a.size+b.size) 9223372036854775808 then k (.string (a++b)) m df else none
  |_=>none
 |_=>none
def zx (P:aE)(o:hZ)(q:Nat->Nat->Nat)(x y:kN):lS:=fun call tm m df k=>
 match x tm with
 | .int a (.ofNat i)=>match y tm with
  | .int b (.ofNat j)=>if Nat.beq (wy a) (wy b)&&Nat.blt i (kT a)&&Nat.blt j (kT a)then k (.int a (.ofNat (q i j))) m df else jK P o call tm m df k
  |_=>none
 |_=>jK P o call tm m df k
def FE (P:aE)(o:hZ)(q:Nat->Nat->Nat)(x y:kN):lS:=fun call tm m df k=>
 match x tm with
 | .int a (.ofNat i)=>match y tm with
  | .int b (.ofNat (j+1))=>if Nat.beq (wy a) (wy b)&&Nat.blt i (kT a)then k (.int a (.ofNat (q i (Nat.succ j)))) m df else jK P o call tm m df k
  |_=>jK P o call tm m df k
 |_=>jK P o call tm m df k
def TM (P:aE)(o:hZ)(op:BinOp)(t:aW)(x y:kN):Option lS:=
 match P.underlying t with
 |some (.int _)=>match op with
  | .lss=>some (CQ br x y)
  | .leq=>some (CQ fW x y)
  | .gtr=>some (CQ fD x y)
  | .geq=>some (CQ iE x y)
  | .eql=>some (CQ aZ x y)
  | .neq=>some (CQ hY x y)
  | .add=>some (arF ml Int.add x y)
  | .sub=>some (arF oe Int.sub x y)
  | .mul=>some (arF E0 Int.mul x y)
  | .or=>some (zx P o Nat.lor x y)
  | .and=>some (zx P o Nat.land x y)
  | .xor=>some (zx P o Nat.xor x y)
  | .quo=>some (FE P o Nat.div x y)
  | .rem=>some (FE P o Nat.mod x y)
  |_=>some (jK P o)
 |some .string=>match op with
  | .eql=>some (xI true x y)
  | .neq=>some (xI false x y)
  | .add=>some (Xt x y)
  |_=>some (jK P o)
 |_=>some (jK P o)
def GX (c x y:kN):lS:=fun _ tm m df k=>
 match c tm with
 | .bool true=>k (x tm) m df
 | .bool false=>k (y tm) m df
 |_=>none
def zG (p:af)(k:Nat->Nat->Rs):Rs:=
 match p with
 | .pointer (some ⟨b,o,none⟩)=>k b o
 |_=>none
def H2 {α:Type}:Nat->List α->List α
 |0,l=>l
 |1,l=>match l with |_::t=>t|_=>[]
 |2,l=>match l with |_::_::t=>t|_=>[]
 |3,l=>match l with |_::_::_::t=>t|_=>[]
 |4,l=>match l with |_::_::_::_::t=>t|_=>[]
 |5,l=>match l with |_::_::_::_::_::t=>t|_=>[]
 |6,l=>match l with |_::_::_::_::_::_::t=>t|_=>[]
 |7,l=>match l with |_::_::_::_::_::_::_::t=>t|_=>[]
 |n+8,l=>match l with |_::_::_::_::_::_::_::_::t=>H2 n t|_=>[]
def Mw (m:Mem)(b o n:Nat):Bool:=
 match m.bO with
 | []=>true
 |l=>!meets l b o n
def zd (m:Mem)(b o:Nat)(k:af->Rs):Rs:=
 match m.blk b with
 |⟨1,_,cs,_,_,_,_,_⟩=>if Mw m b o 1 then
   match H2 o cs with
   |some v::_=>k v
   |_=>none
  else none
 |_=>none
def Ke (x:kN):lS:=fun _ tm m df k=>zG (x tm) fun b o=>zd m b o fun v=>k v m df
def acL (l:Option (List af))(k:af->Rs):Rs:=
 match l with
 |some l=>k (.agg l.toArray)
 |none=>none
def Kd (n:Nat)(x:kN):lS:=fun _ tm m df k=>zG (x tm) fun b o=>acL (m.dQ b o n) fun v=>k v m df
def Hp (P:aE)(o:hZ)(t:aW)(x:kN):Option lS:=
 match mT P t with
 |some true=>match dq P t with
  |some n=>some (Kd n x)
  |none=>some (jK P o)
 |some false=>some (Ke x)
 |none=>some (jK P o)
def agY (r:Option Mem)(k:Mem->Rs):Rs:=
 match r with
 |some m=>k m
 |none=>none
def uY:Nat->List (Option af)->af->Option (List (Option af))
 |0,l,v=>match l with |some _::t=>some (some v::t)|_=>none
 |1,l,v=>match l with |a::some _::t=>some (a::some v::t)|_=>none
 |2,l,v=>match l with |a::b::some _::t=>some (a::b::some v::t)|_=>none
 |3,l,v=>match l with |a::b::c::some _::t=>some (a::b::c::some v::t)|_=>none
 |4,l,v=>match l with |a::b::c::d::some _::t=>some (a::b::c::d::some v::t)|_=>none
 |5,l,v=>match l with |a::b::c::d::e::some _::t=>some (a::b::c::d::e::some v::t)|_=>none
 |6,l,v=>match l with |a::b::c::d::e::f::some _::t=>some (a::b::c::d::e::f::some v::t)|_=>none
 |7,l,v=>match l with |a::b::c::d::e::f::g::some _::t=>some (a::b::c::d::e::f::g::some v::t)|_=>none
 |n+8,l,v=>match l with
  |a::b::c::d::e::f::g::h::t=>match uY n t v with
   |some t'=>some (a::b::c::d::e::f::g::h::t')
   |none=>none
  |_=>none
def Ou (m:Mem)(b o:Nat):Bool:=
 match Nat.ble m.floor b,m.bO with
 |true,[]=>Nat.ble m.base b
 |_,_=>m.cY b o 1
def Az (m:Mem)(b o:Nat)(v:af)(k:Mem->Rs):Rs:=
 match m.blk b with
 |⟨1,sz,cs,es,c,str,pos,_⟩=>if Ou m b o then
   match uY o cs v with
   |some kW=>k {m with heap:=m.heap.put b ⟨1,sz,kW,es,c,str,pos,m.tick⟩,tick:=Nat.succ m.tick}
   |none=>none
  else none
 |_=>none
def gy (v:af):Bool:=
 match v with
 | .agg _=>false
 | .tuple _=>false
 |_=>true
def zZ (n:Nat)(p x:kN):lS:=fun _ tm m df k=>zG (p tm) fun b o=>match x tm with
  | .agg cs=>if Nat.beq n cs.size then agY (m.dS b o cs.toList) fun m'=>k undef m' df else none
  |v=>if Nat.beq n 1 then(if gy v then Az m b o v fun m'=>k undef m' df else none)else none
def Ax (P:aE)(o:hZ)(t:aW)(p x:kN):Option lS:=
 match dq P t with
 |some n=>some (zZ n p x)
 |none=>some (jK P o)
def La (d:Nat)(p:kN):lS:=fun _ tm m df k=>zG (p tm) fun b o=>k (ptrTo b (Nat.add o d)) m df
def ph (P:aE)(o:hZ)(s:aW)(p:kN)(f:Nat):Option lS:=
 match P.underlying s with
 |some (.struct fields)=>match fields[f]? with
  |some fd=>match dq P fd.type with
   |some (_+1)=>some (La fd.offset p)
   |_=>some (jK P o)
  |none=>some (jK P o)
 |_=>some (jK P o)
def N4 (v:af)(len:Nat)(k:Nat->Rs):Rs:=
 match v with
 | .int _ (.ofNat n)=>if Nat.blt n len then k n else none
 |_=>none
def Ff (s:Nat)(x i:kN):lS:=fun _ tm m df k=>match x tm with
 | .slice (some ⟨b,o,none⟩) len _=>N4 (i tm) len fun n=>k (ptrTo b (Nat.add o (Nat.mul n s))) m df
 |_=>none
def Fh (len s:Nat)(x i:kN):lS:=fun _ tm m df k=>zG (x tm) fun b o=>N4 (i tm) len fun n=>k (ptrTo b (Nat.add o (Nat.mul n s))) m df
def o0 (P:aE)(o:hZ)(t:aW)(x i:kN):Option lS:=
 match P.underlying t with
 |some (.slice e)=>match dq P e with
  |some s=>some (Ff s x i)
  |none=>some (jK P o)
 |some (.array len e)=>match dq P e with
  |some s=>some (Fh len s x i)
  |none=>some (jK P o)
 |_=>some (jK P o)
def qE:List UInt8->Nat->Option UInt8
 | [],_=>none
 |b::_,0=>some b
 |_::l,i+1=>qE l i
def TG (x i:kN):lS:=fun _ tm m df k=>match x tm with
  | .string s=>match i tm with
   | .int _ (.ofNat n)=>match qE s.data.toList n with
    |some b=>k (.int .u8 (.ofNat b.toNat)) m df
    |none=>none
   |_=>none
  |_=>none
def Bi (P:aE)(o:hZ)(t:aW)(x i:kN):Option lS:=
 match P.underlying t with
 |some .string=>some (TG x i)
 |_=>some (jK P o)
def Kj (x:kN):lS:=fun _ tm m df k=>match x tm with
  | .string s=>k (.int .i64 (.ofNat s.size)) m df
  |_=>none
def RN (x:kN):lS:=fun _ tm m df k=>match x tm with
  | .slice _ n _=>k (.int .i64 (.ofNat n)) m df
  |_=>none
def RP (P:aE)(o:hZ)(t:aW)(x:kN):Option lS:=
 match P.underlying t with
 |some .string=>some (Kj x)
 |some (.slice _)=>some (RN x)
 |_=>some (jK P o)
def w8 (x:kN)(i:Nat):lS:=fun _ tm m df k=>
 match x tm with
 | .tuple vs=>match vs.toList[i]? with
  |some v=>k v m df
  |none=>none
 |_=>none
def Kc (P:aE)(o:hZ)(nR:Bool)(x y:kN):lS:=fun call tm m df k=>
 match x tm with
 | .int a i=>match y tm with
  | .int b j=>k (.int a (if br j i then(if nR then i else j)else(if nR then j else i))) m df
  |_=>none
 |_=>jK P o call tm m df k
def Vn (x:kN):lS:=fun _ tm m df k=>
 match x tm with
 | .bool b=>k (.bool (!b)) m df
 |_=>none
def QW (P:aE)(o:hZ)(x:kN):lS:=fun call tm m df k=>
 match x tm with
 | .pointer (some a)=>k (.pointer (some a)) m df
 |_=>jK P o call tm m df k
def TP (cs:List (Option af))(m:Mem)(df:Df)(k:Kv):Rs:=
 k (ptrTo m.next 0) {m with heap:=m.heap.put m.next ⟨1,0,cs,#[],0,.empty,1,m.tick⟩,tick:=Nat.succ m.tick,next:=Nat.succ m.next} df
def TQ (cs:List (Option af)):lS:=fun _ tm m df k=>TP cs m df k
def aiS (x:kN):lS:=fun _ tm m df k=>TP ((x tm).cells.toList.map some) m df k
def ix (P:aE)(o:hZ):Option lS:=
 match o.op with
 | .move x=>eQ x fun x=>some (Ro x)
 | .assign x=>eQ x fun x=>some (Ro x)
 | .pick c x y=>eQ c fun c=>eQ x fun x=>eQ y fun y=>some (GX c x y)
 | .binOp op t x y _=>eQ x fun x=>eQ y fun y=>TM P o op t x y
 | .load t x=>eQ x fun x=>Hp P o t x
 | .store t p x=>eQ p fun p=>eQ x fun x=>Ax P o t p x
 | .fieldAddr s p f=>eQ p fun p=>ph P o s p f
 | .indexAddr t x i=>eQ x fun x=>eQ i fun i=>o0 P o t x i
 | .index t x i=>eQ x fun x=>eQ i fun i=>Bi P o t x i
 | .extract x i=>eQ x fun x=>some (w8 x i)
 | .unOp .not _ x=>eQ x fun x=>some (Vn x)
 | .nilCheck x=>eQ x fun x=>some (QW P o x)
 | .alloc e=>match jO P e with
  |some z=>some (TQ (z.cells.toList.map some))
  |none=>none
 | .box _ x=>eQ x fun x=>some (aiS x)
 | .call {callee:= .builtin .min,args,.. }=>match args.toList with
  | [x,y]=>eQ x fun x=>eQ y fun y=>some (Kc P o false x y)
  |_=>some (jK P o)
 | .call {callee:= .builtin .max,args,.. }=>match args.toList with
  | [x,y]=>eQ x fun x=>eQ y fun y=>some (Kc P o true x y)
  |_=>some (jK P o)
 | .call {callee:= .value (.func f),args,.. }=>rZ args.toList fun xs=>some (TD f xs)
 | .call {callee:= .value x,args,.. }=>eQ x fun x=>rZ args.toList fun xs=>some (Ig x xs)
 | .call {callee:= .invoke r name,args,.. }=>eQ r fun r=>rZ args.toList fun xs=>some (MS P r name xs)
 | .call {callee:= .builtin .len,args,argTypes}=>match args.toList,argTypes.toList with
  | [x],t::_=>eQ x fun x=>RP P o t x
  |_,_=>some (jK P o)
 | .defer {callee:= .value x,args,.. }=>eQ x fun x=>rZ args.toList fun xs=>some (FH x xs)
 |_=>some (jK P o)
def UZ (p:Put)(rest:iI)(call:cL)(tm:Tm):Kv:=fun v m df=>rest call (p v tm) m df
def noK (rest:iI)(call:cL)(tm:Tm):Kv:=fun v m df=>rest call tm m df
def Lm (p:Put)(op:lS)(rest:iI):iI:=fun call tm m df=>op call tm m df (UZ p rest call tm)
def Gn (op:lS)(rest:iI):iI:=fun call tm m df=>op call tm m df (noK rest call tm)
def Fy (g:kN)(want:Bool)(p:Put)(op:lS)(rest:iI):iI:=fun call tm m df=>
 match g tm with
 | .bool true=>if want then op call tm m df (UZ p rest call tm)else rest call (p undef tm) m df
 | .bool false=>if want then rest call (p undef tm) m df else op call tm m df (UZ p rest call tm)
 |_=>rest call (p undef tm) m df
def Fx (g:kN)(want:Bool)(op:lS)(rest:iI):iI:=fun call tm m df=>
 match g tm with
 | .bool true=>if want then op call tm m df (noK rest call tm)else rest call tm m df
 | .bool false=>if want then rest call tm m df else op call tm m df (noK rest call tm)
 |_=>rest call tm m df
def Xe:iI:=fun _ tm m df=>some ⟨tm,m,df⟩
def QG (P:aE)(nt:Nat)(ops:Array hZ)(i:Nat)(rest:iI):Option iI:=
 match ops[i]? with
 |none=>none
 |some o=>if o.op.operands.toList.all (qV nt P.globals.size)then
  match ix P o with
  |none=>none
  |some op=>match o.guard with
   |none=>match o.dst with
    |some d=>Er d fun _ p=>some (Lm p op rest)
    |none=>some (Gn op rest)
   |some (j,want)=>match(ops[j]?).bind (·.dst)with
    |some g=>if Nat.blt g nt then Er g fun gx _=>match o.dst with
     |some d=>Er d fun _ p=>some (Fy gx want p op rest)
     |none=>some (Fx gx want op rest)
     else none
    |none=>none
  else none
def mS (v:af):Option Nat:=
 match v with
 | .pointer (some a)=>some a.block
 | .slice (some a) _ _=>some a.block
 | .map (some r)=>some r
 |_=>none
def mz (o:hZ):Option cq:=
 match o.op with
 | .load _ x=>some x
 | .lookup _ x _ _=>some x
 | .slice _ x _ _ _=>some x
 |_=>o.dst.map .tmp
def cT (ops:Array hZ)(o:hZ)(tm:Tm):Bool:=
 match o.guard with
 |none=>true
 |some (j,want)=>match(ops[j]?).bind (·.dst)with
  |some g=>match de g tm with
   | .bool b=>b==want
   |_=>false
  |none=>false
def jG (m:Mem)(v:af):af:=
 match mS v with
 |some b=> .int .i64 (.ofNat (m.blk b).bw)
 |none=> .nilFunc
def Qa (ops:Array hZ)(o:hZ)(x:cq)(slot:Nat)(rest:iI):iI:=fun call tm m df=>
 rest call (sK slot (if cT ops o tm then jG m (dH tm x)else undef) tm) m df
def we (a b:af):Bool:=
 match a,b with
 | .int _ (.ofNat i),.int _ (.ofNat j)=>Nat.beq i j
 | .nilFunc,.nilFunc=>true
 |_,_=>false
def looks (o:hZ):Bool:=
 match o.op with
 | .load .. =>true
 | .lookup .. =>true
 | .slice .. =>true
 |_=>false
def rS (P:aE)(ops:Array hZ)(o:hZ)(x:cq)(slot:Nat)(rest:iI):iI:=fun call tm m df=>
 if cT ops o tm then
  if we (de slot tm) (jG m (dH tm x))&&(if looks o then(dJ P (dH tm) o m).isSome else match mS (dH tm x)with |some b=>Nat.ble m.floor b|none=>true)then rest call tm m df else none
 else rest call tm m df
abbrev mU:=Nat×Nat×Nat
def Lz (f:iI):iI:=fun call tm m df=>match m.pend with
 | []=>f call tm m df
 |_=>none
def yP (P:aE)(nt:Nat)(ops:Array hZ)(t:mU)(rest:iI):Option iI:=
 match t with
 |(0,i,slot)=>match QG P nt ops i rest with
  |some f=>some (match slot with |0=>f|_=>Lz f)
  |none=>none
 |(1,i,slot)=>match ops[i]? with
  |some o=>match mz o with
   |some x=>if qV nt P.globals.size x&&Nat.ble nt slot&&Nat.blt slot 512 then some (Qa ops o x slot rest)else none
   |none=>none
  |none=>none
 |(_,i,slot)=>match ops[i]? with
  |some o=>match mz o with
   |some x=>some (rS P ops o x slot rest)
   |none=>none
  |none=>none
def iB (P:aE)(nt:Nat)(ops:Array hZ):List mU->Option iI
 | []=>some Xe
 |t::l=>match iB P nt ops l with
  |some rest=>yP P nt ops t rest
  |none=>none
def nQ (a b:F):F:=fun call st=>
 match a call st with
 |some (.normal,j7)=>b call j7
 |r=>r
def v9:F:=fun _ st=>some (.normal,st)
def Tw (x:kN)(a b:F):F:=fun call st=>
 match x st.tm with
 | .bool true=>a call st
 | .bool false=>b call st
 |_=>none
def FP (id:Nat)(a:F):F:=fun call st=>
 match a call st with
 |some (.exit j,j7)=>if Nat.beq j id then some (.normal,j7)else some (.exit j,j7)
 |r=>r
def wK (a:F)(call:cL):Nat->Ss->Option (Exit×Ss)
 |0,_=>none
 |n+1,st=>match a call st with
  |some (.normal,j7)=>wK a call n j7
  |r=>r
def Yh (a:F):F:=fun call st=>wK a call 100000 st
def DR (e:Exit):F:=fun _ st=>some (e,st)
def Nr (o:iI):F:=fun call st=>
 match o call st.tm st.mem st.df with
 |some j7=>some (.normal,j7)
 |none=>none
def sR (has:Nat->Bool)(rest:Nat->Option F)(call:cL):Nat->F->Ss->Option (Exit×Ss)
 |0,_,_=>none
 |n+1,a,st=>match a call st with
  |some (.goto l,j7)=>if has l then match rest l with
   |some b=>sR has rest call n b j7
   |none=>none
   else some (.goto l,j7)
  |r=>r
def iu (ops:Array hZ)(bK:Array Nat)(hs:List Nat)(i:Nat):Bool:=
 Nat.blt (cS bK hs i) (qL bK hs i)&&((ops[i]?).any fun o=>match o.op with
  | .load .. | .lookup .. | .slice .. | .alloc _| .box .. | .buildSlice .. | .makeSlice .. | .makeMap .. =>true
  |_=>false)
def EO (ops:Array hZ)(bK:Array Nat)(nt:Nat):Bool:=
 (List.range ops.size).all fun i=>match ops[i]? with
  |some o=>o.after.toList.all (fun e=>!Region.binds .any e||Nat.blt e.on i)&&Nat.beq (o.after.toList.foldl (fun s e=>if Region.binds .any e then s|||2^e.on|||bK.getD e.on 0 else s) 0) (bK.getD i 0)&&(match o.dst with |some d=>Nat.blt d nt|none=>true)
  |none=>false
def steady (ops:Array hZ)(bK:Array Nat)(hs:List Nat):Bool:=
 (List.range ops.size).all fun i=>!iu ops bK hs i||(match ops[i]? with
  |some o=>(List.range ops.size).all fun j=>match ops[j]? with
   |some y=>(match y.dst with |some d=> !(kQ ops o).contains d||(bK.getD i 0).testBit j|none=>true)
   |none=>true
  |none=>false)
def gm (ops:Array hZ)(bK:Array Nat)(hs:List Nat)(s:Nat):List Nat:=(List.range ops.size).filter fun i=>(ops[i]?).any fu&&cS bK hs i==s
def Ey (ops:Array hZ)(bK:Array Nat)(hs:List Nat)(nt s:Nat):List mU:=
 (gm ops bK hs s).flatMap fun i=>if iu ops bK hs i then[(0,i,0),(1,i,nt+i)]else[(0,i,0)]
def tY (ops:Array hZ)(bK:Array Nat)(hs:List Nat)(nt s:Nat):List mU:=
 ((List.range ops.size).filter fun i=>(ops[i]?).any fu&&iu ops bK hs i&&decide (cS bK hs i<=s)&&decide (s<qL bK hs i)).map fun i=>(2,i,nt+i)
def mX (ops:Array hZ)(bK:Array Nat)(hs:List Nat)(nt:Nat):Nat->List Nat->List mU
 |s,[]=>Ey ops bK hs nt s
 |s,h::l=>Ey ops bK hs nt s++(0,h,1)::(tY ops bK hs nt s++mX ops bK hs nt (s+1) l)
def Tq (ops:Array hZ)(nt:Nat):Option (List mU):=
 let bK:=Region.before ops
 let hs:=aG ops
 if xl bK hs&&tidy ops bK&&EO ops bK nt&&steady ops bK hs then some (mX ops bK hs nt 0 hs)else none
def comp (P:aE)(nt:Nat):Nat->Code->Option F
 |0,_=>none
 |n+1,c=>match c with
  | .skip=>some v9
  | .label _=>some v9
  | .seq a b=>match comp P nt n a with
   |some a=>match comp P nt n b with
    |some b=>some (nQ a b)
    |none=>none
   |none=>none
  | .cond x a b=>if qV nt P.globals.size x then
   match comp P nt n a with
   |some a=>match comp P nt n b with
    |some b=>eQ x fun x=>some (Tw x a b)
    |none=>none
   |none=>none
   else none
  | .block id b=>match comp P nt n b with
   |some b=>some (FP id b)
   |none=>none
  | .loop b=>match comp P nt n b with
   |some b=>some (Yh b)
   |none=>none
  | .exit id=>some (DR (.exit id))
  | .ret=>some (DR .ret)
  | .goto l=>some (DR (.goto l))
  | .scope b=>match comp P nt n b with
   |some f=>some fun call st=>sR (fun l=>(findLabel b l).isSome) (fun l=>(findLabel b l).bind (comp P nt n)) call 1000 f st
   |none=>none
  | .region _ ops draw=>if draw then
    match Tq ops nt with
    |some l=>match iB P nt ops l with
     |some o=>some (Nr o)
     |none=>none
    |none=>none
   else match iB P nt ops ((List.range ops.size).map fun i=>(0,i,0))with
   |some o=>some (Nr o)
   |none=>none
  |_=>none
def ss (P:aE)(nt:Nat)(m:Mem)(tm:Tm):List ResultVar->Option (List af)
 | []=>some []
 | .tmp t::l=>if Nat.blt t nt then
   match ss P nt m tm l with
   |some vs=>some (de t tm::vs)
   |none=>none
  else none
 | .cell a t::l=>if Nat.blt a nt then
   match kx P t (de a tm) m,ss P nt m tm l with
   |some v,some vs=>some (v::vs)
   |_,_=>none
  else none
def j1 (P:aE)(nt:Nat)(rs:List ResultVar)(tm:Tm)(m:Mem):Option af:=
 match ss P nt m tm rs with
 |some [v]=>some v
 |some vs=>some (.tuple vs.toArray)
 |none=>none
def fN (P:aE)(f:Nat):Bool:=(P.funcs[f]?).any (·.body.isSome)
def oD (P:aE)(X:Ext)(call:cL):Df->Mem->Option Mem
 | [],m=>some m
 |(f,args)::ds,m=>if fN P f&& !(Nat.beq f X.Aq||Nat.beq f X.oQ)then
   match call f args m with
   |some (_,m')=>oD P X call ds m'
   |none=>none
  else none
def MI (r:Option (Exit×Ss)):Option Ss:=
 match r with
 |some (.normal,st)=>some st
 |some (.ret,st)=>some st
 |_=>none
def xp (P:aE)(X:Ext)(nt:Nat)(rs:List ResultVar)(b:F)(call:cL)(args:List af)(m:Mem):Option (af×Mem):=
 match(if Nat.ble args.length nt then Cs args else none)with
 |none=>none
 |some tm=>
  match MI (b call ⟨tm,m,[]⟩)with
  |none=>none
  |some st=>match oD P X call st.df st.mem with
   |none=>none
   |some m'=>match j1 P nt rs st.tm m' with
    |some v=>some (v,m')
    |none=>none
structure Tab where
 body:cL->List af->Mem->Option (af×Mem)
def iX (P:aE)(X:Ext)(f:Nat):Tab:=
 match P.funcs[f]? with
 |some fn=>match fn.body with
  |some c=>match(if Nat.ble fn.ntmps 512 then comp P fn.ntmps 1000 c else none)with
   |some b=>⟨xp P X fn.ntmps fn.results.toList b⟩
   |none=>⟨fun _ _ _=>none⟩
  |none=>⟨fun _ args m=>tp X f args m⟩
 |none=>⟨fun _ _ _=>none⟩
def kY (P:aE)(X:Ext):Nat->cL
 |0=>fun _ _ _=>none
 |n+1=>fun f args m=>(iX P X f).body (kY P X n) args m
end Go.AM
namespace Go.AM
open Go
theorem xL {α β:Type}{i:Nat}{k:(N8 α->α)->(α->N8 α->N8 α)->Option β}{r:β}(h:P' i k=some r):
  i<8/\k (fun n=>n.get i) (fun x n=>n.put i x)=some r:=by
 unfold P' at h
 split at h<;>first |exact⟨av,h⟩|cases h
theorem jx {β:Type}{t:Nat}{k:kN->Put->Option β}{r:β}(h:Er t k=some r):t<512/\k (de t) (sK t)=some r:=by
 unfold Er at h;obtain⟨h1,h⟩:=xL h;obtain⟨h2,h⟩:=xL h;obtain⟨h3,h⟩:=xL h;have Up:t / 64<8:=h1;have e:Nat.div t 64=rz t 64:=by show t / 64=t / 64%8;omega
 rw[e]at h;exact⟨av,h⟩
theorem oG {t t':Nat}(ht:t<512)(ht':t'<512)(v:af)(tm:Tm):de t' (sK t v tm)=if t=t' then v else de t' tm:=by
 have d (x k:Nat):rz x k=x / k%8:=rfl;have e (x:Nat):Nat.mod x 8=x%8:=rfl;have l (x k:Nat):rz x k<8:=by rw[d];omega
 have l' (x:Nat):Nat.mod x 8<8:=by rw[e];omega
 unfold de sK;rw[N8.get_put _ _ (l ..) (l ..)]
 by_cases h1:rz t 64=rz t' 64
 ·rw[bL h1,N8.get_put _ _ (l ..) (l ..)]
  by_cases h2:rz t 8=rz t' 8
  ·rw[bL h2,N8.get_put _ _ (l' ..) (l' ..)]
   by_cases h3:Nat.mod t 8=Nat.mod t' 8
   ·rw[bL h3,bL (by simp only[d,e]at h1 h2 h3;omega)]
   ·rw[bT h3,bT (by rintro rfl;exact h3 rfl),h1,h2]
  ·rw[bT h2,bT (by rintro rfl;exact h2 rfl),h1]
 ·rw[bT h1,bT (by rintro rfl;exact h1 rfl)]
theorem aO {α:Type}{x:cq}{k:kN->Option α}{r:α}(h:eQ x k=some r):k (fun tm=>dH tm x)=some r:=by
 unfold eQ at h
 split at h
 ·exact(jx h).2
 ·exact h
 ·exact h
 ·exact h
theorem fF {α:Type}:∀{xs:List cq}{k:List kN->Option α}{r:α},rZ xs k=some r->∃os,k os=some r/\∀tm,IQ os tm=xs.map (dH tm)
 | [],k,r,h=>⟨[],h,fun _=>rfl⟩
 |x::l,k,r,h=>by
  have h1:=aO h;obtain⟨os,h2,h3⟩:=fF h1;exact⟨_,h2,fun tm=>by simp[IQ,h3]⟩
def Cl (P:aE)(o:hZ)(ev:cq->af)(f:Nat)(args:List af):Prop:=
 (∃x lO lG first cap,o.op= .call {callee:= .value x,args:=lO,argTypes:=lG}/\ev x= .func (.func f) first cap/\args=first.toList++lO.toList.map ev++cap.toList)\/
 (∃r name lO lG recv,o.op= .call {callee:= .invoke r name,args:=lO,argTypes:=lG}/\eW P (ev r) name=some (f,recv)/\args=recv::lO.toList.map ev)
def Na (o:hZ)(ev:cq->af)(f:Nat)(args:List af):Prop:=
 ∃x lO lG first cap,o.op= .defer {callee:= .value x,args:=lO,argTypes:=lG}/\ev x= .func (.func f) first cap/\args=first.toList++lO.toList.map ev++cap.toList
def yJ (P:aE)(call:cL)(o:hZ)(tm:Tm)(m:Mem)(df:Df)(v:af)(m':Mem)(me:Df):Prop:=
 (dJ P (dH tm) o m=some (v,m')/\me=df)\/
 (∃f args,Cl P o (dH tm) f args/\call f args m=some (v,m')/\me=df)\/
 (∃f args,Na o (dH tm) f args/\v=undef/\m'=m/\me=(f,args)::df)
def eE (P:aE)(o:hZ)(op:lS):Prop:=
 ∀call tm m df k r,op call tm m df k=some r->∃v m' me,k v m' me=some r/\yJ P call o tm m df v m' me
section
variable {P:aE}{o:hZ}
theorem cI:eE P o (jK P o):=by
 intro call tm m df k r h;unfold jK at h
 split at h
 ·rename_i v m' hv;exact⟨v,m',df,h,.inl ⟨hv,rfl⟩⟩
 ·cases h
theorem vz {adv:Option (af×Mem)}{df:Df}{k:Kv}{r:Ss}(h:Ii adv df k=some r):∃v m',adv=some (v,m')/\k v m' df=some r:=by
 unfold Ii at h
 split at h
 ·exact⟨_,_,rfl,h⟩
 ·cases h
theorem y0 {x:cq}(ho:o.op= .move x\/o.op= .assign x):eE P o (Ro fun tm=>dH tm x):=by
 intro call tm m df k r h;refine⟨_,_,_,h,.inl ⟨?_,rfl⟩⟩;unfold dJ;rcases ho with ho|ho<;>rw[ho]
theorem GV {c x y:cq}(ho:o.op= .pick c x y):eE P o (GX (fun tm=>dH tm c) (fun tm=>dH tm x) (fun tm=>dH tm y)):=by
 intro call tm m df k r h;unfold GX at h
 split at h
 ·rename_i hc;refine⟨_,_,_,h,.inl ⟨?_,rfl⟩⟩;unfold dJ;rw[ho];simp only[hc,if_true]
 ·rename_i hc;refine⟨_,_,_,h,.inl ⟨?_,rfl⟩⟩;unfold dJ;rw[ho];simp only[hc,bu,if_false]
 ·cases h
theorem jT (a b:Nat):Nat.blt a b=decide (a<b):=by rw[Bool.eq_iff_iff];simp[Nat.blt_eq]
theorem p6 (a b:Nat):Nat.ble a b=decide (a<=b):=by rw[Bool.eq_iff_iff];simp
theorem Iq (a b:Nat):Nat.beq a b=decide (a=b):=by rw[Bool.eq_iff_iff];simp
theorem bZ (i j:Int):br i j=decide (i<j):=by
 unfold br
 split<;>(try rw[jT])<;>rw[Bool.eq_iff_iff]<;>simp only[jE,bu,false_iff,true_iff,Int.ofNat_eq_natCast,Int.negSucc_eq]<;>omega
theorem cu (i j:Int):aZ i j=decide (i=j):=by
 unfold aZ
 split
 ·rw[Iq,Bool.eq_iff_iff];simp only[jE,Int.ofNat_eq_natCast];omega
 ·rw[Iq,Bool.eq_iff_iff];simp only[jE,Int.negSucc_eq];omega
 ·rename_i h1 h2;rw[Bool.eq_iff_iff];simp only[bu,jE,false_iff];rintro rfl;cases i with
  |ofNat a=>exact h1 a a rfl rfl
  |negSucc a=>exact h2 a a rfl rfl
theorem sX {a b:cQ}(h:Nat.beq (wy a) (wy b)=true):a=b:=by
 cases a<;>cases b<;>first |rfl|(exfalso;revert h;decide)
theorem mr {k:cQ}{n:Nat}(h:Nat.blt n (kT k)=true):k.wrap (n:Int)=n:=by
 rw[jT,jE]at h;cases k<;>simp only[kT]at h<;>simp[cQ.wrap,cQ.bits,cQ.signed]<;>omega
theorem SZ (k:cQ):kT k<=2^k.bits:=by cases k<;>decide
theorem je {α β:Type}{f:α->Sem β}:∀{x:Sem α}{a:α},x.aP P=some a->(x>>=f).aP P=(f a).aP P:=by
 intro x
 show∀{a:α},x.aP P=some a->(x.bind f).aP P=(f a).aP P
 induction x with
 |pure a=>intro b h;simp only[Sem.aP,ah]at h;subst h;rfl
 |program k ih=>intro b h;exact ih P h
 |_=>intro b h;simp[Sem.aP]at h
theorem dD {t:aW}{d:TypeDesc}(h:P.underlying t=some d):(underlying t).aP P=some d:=by
 unfold underlying;rw[je (a:=P) rfl,h];rfl
theorem iC {ev:cq->af}(h1:o.op.operands.all (fun x=>plain (ev x))=true){v:af}(h2:(execOp ev o).aP P=some (.value v))(h3:plain v=true):dp P ev o=some v:=by
 unfold dp;rw[bL h1,h2];simp only[h3,if_true]
theorem p7 {ev:cq->af}{op:BinOp}{t u:aW}{x y:cq}(ho:o.op= .binOp op t x y u){a b:cQ}{i j:Int}(hx:ev x= .int a i)(hy:ev y= .int b j){v:af}
  (h:(binOp op t (.int a i) (.int b j)).aP P=some v)(hv:plain v=true):dp P ev o=some v:=by
 refine iC ?_ ?_ hv
 ·rw[ho];simp[Op.operands,hx,hy,plain,dE]
 ·unfold execOp;rw[ho];simp only[hx,hy];have e:eqGuard op t x y (.int a i) (.int b j)=pure ():=by
   unfold eqGuard
   split<;>rfl
  rw[e];simp only[pure_bind];generalize binOp op t (.int a i) (.int b j)=s at h
  show Sem.aP P (s.bind fun v=>Sem.pure (Next.value v))=_
  have key:∀s:Sem af,s.aP P=some v->Sem.aP P (s.bind fun v=>Sem.pure (Next.value v))=some (Next.value v):=by
   intro s
   induction s with
   |pure a=>intro h;simp only[Sem.aP,ah]at h;subst h;rfl
   |program k ih=>intro h;exact ih P h
   |_=>intro h;simp[Sem.aP]at h
  exact key s h
theorem z8 {ev:cq->af}{op:BinOp}{t u:aW}{x y:cq}(ho:o.op= .binOp op t x y u){a b:cQ}{i j:Int}(hx:ev x= .int a i)(hy:ev y= .int b j){v:af}(hp:dp P ev o=some v){m:Mem}:dJ P ev o m=some (v,m):=by
 unfold dJ;rw[ho];simp only[];have e:∀c d,qZ P t c d (ev x) (ev y)=none:=by
  intro c d;rw[hx,hy];unfold qZ
  split<;>first |rfl|(rename_i h;cases h)
 split
 ·rw[e,hp];rfl
 ·rw[e,hp];rfl
 ·rw[hp];rfl
theorem yJ.of{call:cL}{tm:Tm}{m m':Mem}{df:Df}{v:af}(h:dJ P (dH tm) o m=some (v,m')):yJ P call o tm m df v m' df:= .inl ⟨h,rfl⟩
variable {x y:cq}
abbrev ex (x:cq):kN:=fun tm=>dH tm x
theorem mR {op:BinOp}{t u:aW}(ho:o.op= .binOp op t x y u){f:Int->Int->Bool}(hf:∀k i j,(binOp op t (.int k i) (.int k j)).aP P=some (.bool (f i j))):eE P o (CQ f (ex x) (ex y)):=by
 intro call tm m df k r h;unfold CQ at h
 split at h
 ·rename_i a i hx
  split at h
  ·rename_i b j hy
   split at h
   ·rename_i hk;obtain rfl:=sX hk;exact⟨_,_,_,h,.of (z8 ho hx hy (p7 ho hx hy (hf _ _ _) rfl))⟩
   ·cases h
  ·cases h
 ·cases h
theorem yG {op:BinOp}{t u:aW}(ho:o.op= .binOp op t x y u){f:Int->Int->Int}{q:Int->Int->Option Nat}(hq:∀i j n,q i j=some n->f i j=n)
  (hf:∀k i j,(binOp op t (.int k i) (.int k j)).aP P=some (.int k (k.wrap (f i j)))):eE P o (arF q f (ex x) (ex y)):=by
 intro call tm m df k r h;unfold arF at h
 split at h
 ·rename_i a i hx
  split at h
  ·rename_i b j hy
   split at h
   ·rename_i hk;obtain rfl:=sX hk;have key:=z8 (m:=m) ho hx hy (p7 ho hx hy (hf _ _ _) rfl)
    split at h
    ·rename_i n hn
     split at h
     ·rename_i hs;refine⟨_,_,_,h,.of ?_⟩;rw[key,hq _ _ _ hn,mr hs];rfl
     ·exact⟨_,_,_,h,.of key⟩
    ·exact⟨_,_,_,h,.of key⟩
   ·cases h
  ·cases h
 ·cases h
theorem B9 {k:cQ}{i:Nat}(h:Nat.blt i (kT k)=true):(BitVec.ofInt k.bits (i:Int)).toNat=i:=by
 rw[jT,jE]at h;have :=SZ k;simp only[BitVec.toNat_ofInt];have h2:(i:Int)%((2^k.bits:Nat):Int)=i:=Int.emod_eq_of_lt av av;rw[h2];simp
theorem SY (k:cQ):∃n,kT k=2^n:=by
 cases k
 ·exact⟨7,rfl⟩
 ·exact⟨15,rfl⟩
 ·exact⟨31,rfl⟩
 ·exact⟨63,rfl⟩
 ·exact⟨8,rfl⟩
 ·exact⟨16,rfl⟩
 ·exact⟨32,rfl⟩
 ·exact⟨64,rfl⟩
theorem tC {op:BinOp}{t u:aW}(ho:o.op= .binOp op t x y u){q:Nat->Nat->Nat}(hq:∀n i j,i<2^n->j<2^n->q i j<2^n)
  (hf:∀(k:cQ) (i j:Nat),(BitVec.ofInt k.bits (i:Int)).toNat=i->(BitVec.ofInt k.bits (j:Int)).toNat=j->(binOp op t (.int k i) (.int k j)).aP P=some (.int k (k.wrap ((q i j:Nat):Int)))):eE P o (zx P o q (ex x) (ex y)):=by
 intro call tm m df k r h;unfold zx at h
 split at h
 ·rename_i a i hx
  split at h
  ·rename_i b j hy
   split at h
   ·rename_i hk;simp only[aj]at hk;obtain⟨⟨hk,hi⟩,hj⟩:=hk;obtain rfl:=sX hk;refine⟨_,_,_,h,.of ?_⟩;rw[z8 ho hx hy (p7 ho hx hy (hf a i j (B9 hi) (B9 hj)) rfl)];obtain⟨n,hn⟩:=SY a;have :Nat.blt (q i j) (kT a)=true:=by
     rw[jT,jE]at hi hj⊢;rw[hn]at hi hj⊢;exact hq n i j hi hj
    rw[mr this];rfl
   ·exact cI call tm m df k r h
  ·cases h
 ·exact cI call tm m df k r h
theorem BM {op:BinOp}{t u:aW}(ho:o.op= .binOp op t x y u){q:Nat->Nat->Nat}(hq:∀i j,q i j<=i)
  (hf:∀(k:cQ) (i j:Nat),Nat.blt i (kT k)=true->(binOp op t (.int k i) (.int k ((j+1:Nat):Int))).aP P=some (.int k ((q i (j+1):Nat):Int))):eE P o (FE P o q (ex x) (ex y)):=by
 intro call tm m df k r h;unfold FE at h
 split at h
 ·rename_i a i hx
  split at h
  ·rename_i b j hy
   split at h
   ·rename_i hk;simp only[aj]at hk;obtain⟨hk,hi⟩:=hk;obtain rfl:=sX hk;exact⟨_,_,_,h,.of (z8 ho hx hy (p7 ho hx hy (hf a i j hi) rfl))⟩
   ·exact cI call tm m df k r h
  ·exact cI call tm m df k r h
 ·exact cI call tm m df k r h
theorem Aw {ev:cq->af}{op:BinOp}{t u:aW}(ho:o.op= .binOp op t x y u){a b:ByteArray}(hx:ev x= .string a)(hy:ev y= .string b){v:af}
  (h:(Op.stringOp op a b).aP P=some v)(hv:plain v=true){m:Mem}(dG:op≠ .shl/\op≠ .shr):dJ P ev o m=some (v,m):=by
 have hp:dp P ev o=some v:=by
  refine iC ?_ ?_ hv
  ·rw[ho];simp[Op.operands,hx,hy,plain,dE]
  ·unfold execOp;rw[ho];simp only[hx,hy];have e:eqGuard op t x y (.string a) (.string b)=pure ():=by
    unfold eqGuard
    split<;>rfl
   have e2:binOp op t (.string a) (.string b)=Op.stringOp op a b:=by cases op<;>rfl
   rw[e,e2];simp only[pure_bind];generalize Op.stringOp op a b=s at h
   show Sem.aP P (s.bind fun v=>Sem.pure (Next.value v))=_
   have key:∀s:Sem af,s.aP P=some v->Sem.aP P (s.bind fun v=>Sem.pure (Next.value v))=some (Next.value v):=by
    intro s
    induction s with
    |pure a=>intro h;simp only[Sem.aP,ah]at h;subst h;rfl
    |program k ih=>intro h;exact ih P h
    |_=>intro h;simp[Sem.aP]at h
   exact key s h
 unfold dJ;rw[ho];simp only[];have e:∀c d,qZ P t c d (ev x) (ev y)=none:=by
  intro c d;rw[hx,hy];unfold qZ
  split<;>first |rfl|(rename_i h;cases h)
 split
 ·rw[e,hp];rfl
 ·rw[e,hp];rfl
 ·rw[hp];rfl
theorem v7 {want:Bool}{t u:aW}(ho:o.op= .binOp (if want then .eql else .neq) t x y u):eE P o (xI want (ex x) (ex y)):=by
 intro call tm m df k r h;unfold xI at h
 split at h
 ·rename_i a hx
  split at h
  ·rename_i b hy;refine⟨_,_,_,h,.of (Aw ho hx hy ?_ rfl ?_)⟩
   ·cases want with
    |true=>simp[Op.stringOp,pure,Sem.aP]
    |false=>simp[Op.stringOp,pure,Sem.aP]
   ·cases want<;>simp
  ·cases h
 ·cases h
theorem K0 {t u:aW}(ho:o.op= .binOp .add t x y u):eE P o (Xt (ex x) (ex y)):=by
 intro call tm m df k r h;unfold Xt at h
 split at h
 ·rename_i a hx
  split at h
  ·rename_i b hy
   split at h
   ·rename_i hs;rw[jT,jE]at hs;refine⟨_,_,_,h,.of (Aw ho hx hy ?_ rfl cK)⟩;unfold Op.stringOp;simp only[];rw[bT (by simp only[cQ.max,cQ.signed,cQ.bits];simp;omega)];rfl
   ·cases h
  ·cases h
 ·cases h
theorem K7 {op:BinOp}{t u:aW}(ho:o.op= .binOp op t x y u){f:lS}(h:TM P o op t (ex x) (ex y)=some f):eE P o f:=by
 unfold TM at h
 split at h
 ·split at h
  ·cases h;exact mR ho fun k i j=>by simp[binOp,Op.intCmp,pure,Sem.aP,bZ]
  ·cases h;exact mR ho fun k i j=>by simp[binOp,Op.intCmp,pure,Sem.aP,fW,bZ];rw[Bool.eq_iff_iff];simp
  ·cases h;exact mR ho fun k i j=>by simp[binOp,Op.intCmp,pure,Sem.aP,fD,bZ]
  ·cases h;exact mR ho fun k i j=>by simp[binOp,Op.intCmp,pure,Sem.aP,iE,bZ];rw[Bool.eq_iff_iff];simp
  ·cases h;exact mR ho fun k i j=>by simp[binOp,Op.intCmp,pure,Sem.aP,cu];rw[Bool.eq_iff_iff];simp
  ·cases h;exact mR ho fun k i j=>by simp[binOp,Op.intCmp,pure,Sem.aP,hY,cu];rw[Bool.eq_iff_iff];simp
  ·cases h;refine yG ho (fun i j n hn=>?_) fun k i j=>by simp[binOp,Op.intArith,pure,Sem.aP]
   unfold ml at hn
   split at hn
   ·cases hn;rfl
   ·cases hn
  ·cases h;refine yG ho (fun i j n hn=>?_) fun k i j=>by simp[binOp,Op.intArith,pure,Sem.aP];rfl
   unfold oe at hn
   split at hn
   ·rename_i a b
    split at hn
    ·rename_i hb;rw[p6,jE]at hb;cases hn
     show(a:Int)-b=((a-b:Nat):Int)
     omega
    ·cases hn
   ·cases hn
  ·cases h;exact yG ho (fun i j n hn=>by cases hn) fun k i j=>by simp[binOp,Op.intArith,pure,Sem.aP]
  ·cases h;refine tC ho (fun n i j hi hj=>Nat.or_lt_two_pow hi hj) fun k i j hi hj=>?_
   simp only[binOp,ne_eq,not_true_eq_false,if_false,Op.intBits,pure,Sem.aP];rw[BitVec.toNat_or,hi,hj];rfl
  ·cases h;refine tC ho (fun n i j hi hj=>Nat.and_lt_two_pow i hj) fun k i j hi hj=>?_
   simp only[binOp,ne_eq,not_true_eq_false,if_false,Op.intBits,pure,Sem.aP];rw[BitVec.toNat_and,hi,hj];rfl
  ·cases h;refine tC ho (fun n i j hi hj=>Nat.xor_lt_two_pow hi hj) fun k i j hi hj=>?_
   simp only[binOp,ne_eq,not_true_eq_false,if_false,Op.intBits,pure,Sem.aP];rw[BitVec.toNat_xor,hi,hj];rfl
  ·cases h;refine BM ho (fun i j=>Nat.div_le_self i j) fun k i j hi=>?_
   simp only[binOp,ne_eq,not_true_eq_false,if_false,Op.intDiv,pure];rw[bT av];simp only[Sem.aP];have e:(i:Int).tdiv ((j+1:Nat):Int)=((Nat.div i (j+1):Nat):Int):=rfl;rw[e,mr];rw[jT,jE]at hi⊢;exact Nat.lt_of_le_of_lt (Nat.div_le_self i _) hi
  ·cases h;refine BM ho (fun i j=>Nat.mod_le i j) fun k i j hi=>?_
   simp only[binOp,ne_eq,not_true_eq_false,if_false,Op.intDiv,pure];rw[bT av];rfl
  ·cases h;exact cI
 ·split at h
  ·cases h;exact v7 (want:=true) ho
  ·cases h;exact v7 (want:=false) ho
  ·cases h;exact K0 ho
  ·cases h;exact cI
 ·cases h;exact cI
theorem qQ {v:af}{k:Nat->Nat->Rs}{r:Ss}(h:zG v k=some r):∃b o,v= .pointer (some ⟨b,o,none⟩)/\k b o=some r:=by
 unfold zG at h
 split at h
 ·exact⟨_,_,rfl,h⟩
 ·cases h
theorem xh {α:Type}:∀(n:Nat) (l:List α),H2 n l=l.drop n
 |0,l=>rfl
 |1,l=>by cases l<;>rfl
 |2,l=>by rcases l with _|⟨_,_|⟨_,l⟩⟩<;>rfl
 |3,l=>by rcases l with _|⟨_,_|⟨_,_|⟨_,l⟩⟩⟩<;>rfl
 |4,l=>by rcases l with _|⟨_,_|⟨_,_|⟨_,_|⟨_,l⟩⟩⟩⟩<;>rfl
 |5,l=>by rcases l with _|⟨_,_|⟨_,_|⟨_,_|⟨_,_|⟨_,l⟩⟩⟩⟩⟩<;>rfl
 |6,l=>by rcases l with _|⟨_,_|⟨_,_|⟨_,_|⟨_,_|⟨_,_|⟨_,l⟩⟩⟩⟩⟩⟩<;>rfl
 |7,l=>by rcases l with _|⟨_,_|⟨_,_|⟨_,_|⟨_,_|⟨_,_|⟨_,_|⟨_,l⟩⟩⟩⟩⟩⟩⟩<;>rfl
 |n+8,l=>by
  rcases l with _|⟨_,_|⟨_,_|⟨_,_|⟨_,_|⟨_,_|⟨_,_|⟨_,_|⟨_,l⟩⟩⟩⟩⟩⟩⟩⟩<;>simp only[H2]
  all_goals first |exact xh n l|simp
theorem Br (m:Mem)(b o n:Nat):Mw m b o n=!meets m.bO b o n:=by
 unfold Mw
 split
 ·rename_i h;rw[h];rfl
 ·rfl
theorem Kf {m:Mem}{b o:Nat}{k:af->Rs}{r:Ss}(h:zd m b o k=some r):∃v,m.dQ b o 1=some [v]/\k v=some r:=by
 unfold zd at h
 split at h
 ·rename_i sz cs es c str pos st hb
  split at h
  ·rename_i hh;rw[Br]at hh;rw[xh]at h
   split at h
   ·rename_i v t hd;refine⟨v,?_,h⟩;unfold Mem.dQ;simp only[hb,hh,hd];simp[gO]
   ·cases h
  ·cases h
 ·cases h
theorem Hn {t:aW}(ho:o.op= .load t x){f:lS}(h:Hp P o t (ex x)=some f):eE P o f:=by
 unfold Hp at h
 split at h
 ·rename_i ha
  split at h
  ·rename_i n hn;cases h;intro call tm m df k r h;unfold Kd at h;obtain⟨b,q,hx,h⟩:=qQ h;unfold acL at h
   split at h
   ·rename_i l hl;refine⟨_,_,_,h,.of ?_⟩;unfold dJ;rw[ho];simp only[hx,kx,ha,hn,cz,hl,cR]
   ·cases h
  ·cases h;exact cI
 ·rename_i ha;cases h;intro call tm m df k r h;unfold Ke at h;obtain⟨b,q,hx,h⟩:=qQ h;obtain⟨v,hv,h⟩:=Kf h;refine⟨_,_,_,h,.of ?_⟩;unfold dJ;rw[ho];simp only[hx,kx,ha,hv,cz,List.head?_cons,cR]
 ·cases h;exact cI
theorem z3:∀(n:Nat) (l:List (Option af)) (v:af) (l':List (Option af)),uY n l v=some l'->eM l n [v]=some l'
 |0,l,v,l',h=>by
  unfold uY at h
  split at h
  ·cases h;simp[eM]
  ·cases h
 |1,l,v,l',h=>by
  unfold uY at h
  split at h
  ·cases h;simp[eM]
  ·cases h
 |2,l,v,l',h=>by
  unfold uY at h
  split at h
  ·cases h;simp[eM]
  ·cases h
 |3,l,v,l',h=>by
  unfold uY at h
  split at h
  ·cases h;simp[eM]
  ·cases h
 |4,l,v,l',h=>by
  unfold uY at h
  split at h
  ·cases h;simp[eM]
  ·cases h
 |5,l,v,l',h=>by
  unfold uY at h
  split at h
  ·cases h;simp[eM]
  ·cases h
 |6,l,v,l',h=>by
  unfold uY at h
  split at h
  ·cases h;simp[eM]
  ·cases h
 |7,l,v,l',h=>by
  unfold uY at h
  split at h
  ·cases h;simp[eM]
  ·cases h
 |n+8,l,v,l',h=>by
  unfold uY at h
  split at h
  ·split at h
   ·rename_i t' ht;cases h;have :=z3 n _ v t' ht;simp[eM,this]
   ·cases h
  ·cases h
theorem Ot {m:Mem}{b o:Nat}(h:Ou m b o=true):m.cY b o 1=true:=by
 unfold Ou at h
 split at h
 ·rename_i h1 h2;rw[p6,jE]at h h1;unfold Mem.cY;rw[h2];simp[meets,h,h1]
 ·exact h
theorem Gl {m:Mem}{b o:Nat}{v:af}{k:Mem->Rs}{r:Ss}(hv:v.oneCell'=true)(h:Az m b o v k=some r):∃m',m.dS b o [v]=some m'/\k m'=some r:=by
 unfold Az at h
 split at h
 ·rename_i sz cs es c str pos st hb
  split at h
  ·rename_i hm
   split at h
   ·rename_i kW jB;refine⟨_,?_,h⟩;unfold Mem.dS;simp only[hb,List.length_singleton,Ot hm,List.all_cons,hv,List.all_nil,z3 _ _ _ _ jB,cR];rfl
   ·cases h
  ·cases h
 ·cases h
theorem NH {v:af}(h:gy v=true):v.oneCell'=true/\v.cells=#[v]:=by
 cases v<;>first |exact⟨rfl,rfl⟩|cases h
theorem Et {t:aW}{p:cq}(ho:o.op= .store t p x){f:lS}(h:Ax P o t (ex p) (ex x)=some f):eE P o f:=by
 unfold Ax at h
 split at h
 ·rename_i n hn;cases h;intro call tm m df k r h;unfold zZ at h;obtain⟨b,q,hp,h⟩:=qQ h
  split at h
  ·rename_i cs hx
   split at h
   ·rename_i hs;rw[Iq,jE]at hs;unfold agY at h
    split at h
    ·rename_i m' hm;refine⟨_,_,_,h,.of ?_⟩;unfold dJ;rw[ho];simp only[hp,uW,hx];rw[bL (by rw[hn,hs];rfl)]
     show(m.dS b q cs.toList).map _=_
     rw[hm];rfl
    ·cases h
   ·cases h
  ·split at h
   ·rename_i hs
    split at h
    ·rename_i hv;obtain⟨h1,h2⟩:=NH hv;obtain⟨m',hm,h⟩:=Gl h1 h;refine⟨_,_,_,h,.of ?_⟩;unfold dJ;rw[ho];simp only[hp,uW];rw[Iq,jE]at hs;rw[h2,bL (by rw[hn,hs];rfl)]
     show(m.dS b q [dH tm x]).map _=_
     rw[hm];rfl
    ·cases h
   ·cases h
 ·cases h;exact cI
theorem yu {st:aW}{p:cq}{f:Nat}(ho:o.op= .fieldAddr st p f){q:lS}(h:ph P o st (ex p) f=some q):eE P o q:=by
 unfold ph at h
 split at h
 ·rename_i fields hu
  split at h
  ·rename_i fd hfd
   split at h
   ·rename_i n hn;cases h;intro call tm m df k r h;unfold La at h;obtain⟨b,c,hp,h⟩:=qQ h;refine⟨_,_,_,h,.of ?_⟩;unfold dJ;rw[ho];simp only[rM,hu,hp,hfd,hn];rfl
   ·cases h;exact cI
  ·cases h;exact cI
 ·cases h;exact cI
theorem Dn {v:af}{len:Nat}{k:Nat->Rs}{r:Ss}(h:N4 v len k=some r):∃ki n,v= .int ki (.ofNat n)/\n<len/\k n=some r:=by
 unfold N4 at h
 split at h
 ·split at h
  ·rename_i hb;rw[jT,jE]at hb;exact⟨_,_,rfl,hb,h⟩
  ·cases h
 ·cases h
theorem ye {t:aW}{i:cq}(ho:o.op= .indexAddr t x i){q:lS}(h:o0 P o t (ex x) (ex i)=some q):eE P o q:=by
 unfold o0 at h
 split at h
 ·rename_i e hu
  split at h
  ·rename_i s hs;cases h;intro call tm m df k r h;unfold Ff at h
   split at h
   ·rename_i b c len cap hx;obtain⟨ki,n,hi,cN,h⟩:=Dn h;refine⟨_,_,_,h,.of ?_⟩;unfold dJ;rw[ho];simp only[pd,hu,hx,hi];rw[bL ⟨cK,by simp;omega⟩,hs];simp only[cR,Int.ofNat_eq_natCast,Int.toNat_natCast];rfl
   ·cases h
  ·cases h;exact cI
 ·rename_i len e hu
  split at h
  ·rename_i s hs;cases h;intro call tm m df k r h;unfold Fh at h;obtain⟨b,c,hx,h⟩:=qQ h;obtain⟨ki,n,hi,cN,h⟩:=Dn h;refine⟨_,_,_,h,.of ?_⟩;unfold dJ;rw[ho];simp only[pd,hu,hx,hi];rw[bL ⟨cK,by simp;omega⟩,hs];simp only[cR,Int.ofNat_eq_natCast,Int.toNat_natCast];rfl
  ·cases h;exact cI
 ·cases h;exact cI
theorem D8:∀(l:List UInt8) (n:Nat),qE l n=l[n]?
 | [],n=>by simp[qE]
 |b::l,0=>rfl
 |b::l,n+1=>by simp[qE,D8 l n]
theorem K2 (s:ByteArray)(n:Nat):s[n]?=s.data.toList[n]?:=by
 rw[Array.getElem?_toList]
 by_cases h:n<s.size
 ·rw[getElem?_pos s n h,Array.getElem?_eq_getElem h];rfl
 ·rw[getElem?_neg s n h,Array.getElem?_eq_none (by simpa using h)]
theorem Fg {t:aW}{i:cq}(ho:o.op= .index t x i){q:lS}(h:Bi P o t (ex x) (ex i)=some q):eE P o q:=by
 unfold Bi at h
 split at h
 ·rename_i hu;cases h;intro call tm m df k r h;unfold TG at h
  split at h
  ·rename_i s hx
   split at h
   ·rename_i ki n hi
    split at h
    ·rename_i b hb;rw[D8]at hb;refine⟨_,_,_,h,.of ?_⟩;unfold dJ;rw[ho];have e1:vh P t (dH tm x) (dH tm i)=none:=by unfold vh;rw[hu]
     have e2:dp P (dH tm) o=some (.int .u8 (.ofNat b.toNat)):=by
      refine iC ?_ ?_ rfl
      ·rw[ho];simp only[Op.operands];simp[show dH tm x= .string s from hx,show dH tm i= .int ki (.ofNat n)from hi,plain,dE]
      ·unfold execOp;rw[ho];simp only[show dH tm x= .string s from hx,show dH tm i= .int ki (.ofNat n)from hi,Instr.index,asIntOf,pure_bind];have iW:s[(Int.ofNat n).toNat]?=some b:=by rw[K2];exact hb
       refine(je (a:= .int .u8 (.ofNat b.toNat)) ?_).trans rfl;rw[je (dD hu)];simp only[iW];rw[bL cK];rfl
     simp only[e1,e2];rfl
    ·cases h
   ·cases h
  ·cases h
 ·cases h;exact cI
end
end Go.AM
namespace Go.AM
open Go
section
variable {P:aE}{o:hZ}{x y:cq}
theorem Kk {lO lG:Array _}{t:aW}{l:List aW}(ho:o.op= .call {callee:= .builtin .len,args:=lO,argTypes:=lG})(ha:lO.toList=[x])(ht:lG.toList=t::l){q:lS}(h:RP P o t (ex x)=some q):eE P o q:=by
 have abR:(lG[0]?:Option aW)=some t:=by rw[<-Array.getElem?_toList,ht];rfl
 unfold RP at h
 split at h
 ·rename_i hu;cases h;intro call tm m df k r h;unfold Kj at h
  split at h
  ·rename_i s hx;refine⟨_,_,_,h,.of ?_⟩;have uu:dH tm x= .string s:=hx;have has:lO=#[x]:=by apply Array.ext';simpa using ha
   have e:dp P (dH tm) o=some (.int .i64 (.ofNat s.size)):=by
    refine iC ?_ ?_ rfl
    ·rw[ho];simp[Op.operands,Call.operands,has,uu,plain,dE]
    ·unfold execOp;rw[ho];simp only[resolve,pure_bind,invoke,builtin];refine(je (a:= .int .i64 (.ofNat s.size)) ?_).trans rfl;unfold Builtin.len_;simp only[has,abR,List.map_toArray,List.map_cons,List.map_nil,List.getElem?_toArray,List.getElem?_cons_zero,uu];rw[je (dD hu)];rfl
   unfold dJ;rw[ho];simp only[ha,abR,cz,hu,uu,e];rfl
  ·cases h
 ·rename_i et hu;cases h;intro call tm m df k r h;unfold RN at h
  split at h
  ·rename_i a n c hx;refine⟨_,_,_,h,.of ?_⟩;have uu:dH tm x= .slice a n c:=hx;unfold dJ;rw[ho];simp only[ha,abR,cz,hu,uu];rfl
  ·cases h
 ·cases h;exact cI
theorem BG {i:Nat}(ho:o.op= .extract x i):eE P o (w8 (ex x) i):=by
 intro call tm m df k r h;unfold w8 at h
 split at h
 ·rename_i vs hx
  split at h
  ·rename_i v hv;refine⟨_,_,_,h,.of ?_⟩;have uu:dH tm x= .tuple vs:=hx;unfold dJ;rw[ho];rw[Array.getElem?_toList]at hv;simp only[uu,hv,cR]
  ·cases h
 ·cases h
theorem JY {t:aW}(ho:o.op= .unOp .not t x):eE P o (Vn (ex x)):=by
 intro call tm m df k r h;unfold Vn at h
 split at h
 ·rename_i b hx;have uu:dH tm x= .bool b:=hx;refine⟨_,_,_,h,.of ?_⟩;have e:dp P (dH tm) o=some (.bool (!b)):=by
   refine iC ?_ ?_ rfl
   ·rw[ho];simp[Op.operands,uu,plain,dE]
   ·unfold execOp;rw[ho];simp only[uu];rfl
  unfold dJ;rw[ho];simp only[e,cR]
 ·cases h
theorem JZ (ho:o.op= .nilCheck x):eE P o (QW P o (ex x)):=by
 intro call tm m df k r h;unfold QW at h
 split at h
 ·rename_i a hx;have uu:dH tm x= .pointer (some a):=hx;refine⟨_,_,_,h,.of ?_⟩;unfold dJ;rw[ho];simp only[uu]
 ·exact cI call tm m df k r h
theorem FR {e:aW}{z:af}(ho:o.op= .alloc e)(hz:jO P e=some z):eE P o (TQ (z.cells.toList.map some)):=by
 intro call tm m df k r h;refine⟨_,_,_,h,.of ?_⟩;unfold dJ;rw[ho];simp only[hz,cR];rfl
theorem K3 {e:aW}(ho:o.op= .box e x):eE P o (aiS (ex x)):=by
 intro call tm m df k r h;refine⟨_,_,_,h,.of ?_⟩;unfold dJ;rw[ho];rfl
theorem A6 {lO lG:Array _}{nR:Bool}(ho:o.op= .call {callee:= .builtin (if nR then .max else .min),args:=lO,argTypes:=lG})(ha:lO.toList=[x,y]):eE P o (Kc P o nR (ex x) (ex y)):=by
 intro call tm m df k r h;unfold Kc at h
 split at h
 ·rename_i a i hx
  split at h
  ·rename_i b j hy;have uu:dH tm x= .int a i:=hx;have WC:dH tm y= .int b j:=hy;refine⟨_,_,_,h,.of ?_⟩;have has:lO=#[x,y]:=by apply Array.ext';simpa using ha
   have e:dp P (dH tm) o=some (.int a (if br j i then(if nR then i else j)else(if nR then j else i))):=by
    refine iC ?_ ?_ rfl
    ·rw[ho];cases nR<;>simp[Op.operands,Call.operands,has,uu,WC,plain,dE]
    ·unfold execOp;rw[ho];cases nR
     ·simp only[bu,if_false,resolve,pure_bind,invoke,builtin,has,List.map_toArray,List.map_cons,List.map_nil,uu,WC];refine(je (a:= .int a (if br j i then j else i)) ?_).trans rfl;rw[bZ];simp only[Builtin.min_,List.foldlM,Builtin.min2,pure_bind,jE];rfl
     ·simp only[if_true,resolve,pure_bind,invoke,builtin,has,List.map_toArray,List.map_cons,List.map_nil,uu,WC];refine(je (a:= .int a (if br j i then i else j)) ?_).trans rfl;rw[bZ];have hm:(if j>i then j else i)=if j<i then i else j:=by split<;>split<;>omega
      simp only[Builtin.max_,List.foldlM,Builtin.max2,pure_bind,jE,hm];rfl
   unfold dJ;rw[ho];cases nR
   ·simp only[bu,if_false]at e⊢;rw[e];rfl
   ·simp only[if_true]at e⊢;rw[e];rfl
  ·cases h
 ·exact cI call tm m df k r h
theorem Ik {f:Nat}{lO lG:Array _}{os:List kN}(ho:o.op= .call {callee:= .value (.func f),args:=lO,argTypes:=lG})(Bn:∀tm,IQ os tm=lO.toList.map (dH tm)):eE P o (TD f os):=by
 intro call tm m df k r h;obtain⟨v,m',hc,h⟩:=vz h;refine⟨_,_,_,h,.inr (.inl ⟨f,_,.inl ⟨_,_,_,#[],#[],ho,rfl,rfl⟩,?_,rfl⟩)⟩;simpa[Bn tm]using hc
theorem Ie {lO lG:Array _}{os:List kN}(ho:o.op= .call {callee:= .value x,args:=lO,argTypes:=lG})(Bn:∀tm,IQ os tm=lO.toList.map (dH tm)):eE P o (Ig (ex x) os):=by
 intro call tm m df k r h;unfold Ig at h
 split at h
 ·rename_i f first cap hx
  obtain⟨v,m',hc,h⟩:=vz h;refine⟨_,_,_,h,.inr (.inl ⟨f,_,.inl ⟨_,_,_,first,cap,ho,hx,rfl⟩,?_,rfl⟩)⟩;rw[<-Bn tm];exact hc
 ·cases h
theorem Ij {rc:cq}{name:String}{lO lG:Array _}{os:List kN}(ho:o.op= .call {callee:= .invoke rc name,args:=lO,argTypes:=lG})(Bn:∀tm,IQ os tm=lO.toList.map (dH tm)):eE P o (MS P (ex rc) name os):=by
 intro call tm m df k r h;unfold MS at h
 split at h
 ·rename_i f recv hx;obtain⟨v,m',hc,h⟩:=vz h;refine⟨_,_,_,h,.inr (.inl ⟨f,_,.inr ⟨_,_,_,_,recv,ho,hx,rfl⟩,?_,rfl⟩)⟩;rw[<-Bn tm];exact hc
 ·cases h
theorem FG {lO lG:Array _}{os:List kN}(ho:o.op= .defer {callee:= .value x,args:=lO,argTypes:=lG})(Bn:∀tm,IQ os tm=lO.toList.map (dH tm)):eE P o (FH (ex x) os):=by
 intro call tm m df k r h;unfold FH at h
 split at h
 ·rename_i f first cap hx
  refine⟨_,_,_,h,.inr (.inr ⟨f,_,⟨_,_,_,first,cap,ho,hx,rfl⟩,rfl,rfl,?_⟩)⟩;rw[<-Bn tm]
 ·cases h
theorem H8 {op:lS}(h:ix P o=some op):eE P o op:=by
 unfold ix at h
 split at h
 ·rename_i ho;have :=aO h;cases this;exact y0 (.inl ho)
 ·rename_i ho;have :=aO h;cases this;exact y0 (.inr ho)
 ·rename_i ho;have :=aO (aO (aO h));cases this;exact GV ho
 ·rename_i ho;exact K7 ho (aO (aO h))
 ·rename_i ho;exact Hn ho (aO h)
 ·rename_i ho;exact Et ho (aO (aO h))
 ·rename_i ho;exact yu ho (aO h)
 ·rename_i ho;exact ye ho (aO (aO h))
 ·rename_i ho;exact Fg ho (aO (aO h))
 ·rename_i ho;have :=aO h;cases this;exact BG ho
 ·rename_i ho;have :=aO h;cases this;exact JY ho
 ·rename_i ho;have :=aO h;cases this;exact JZ ho
 ·rename_i ho
  split at h
  ·rename_i z hz;cases h;exact FR ho hz
  ·cases h
 ·rename_i ho;have :=aO h;cases this;exact K3 ho
 ·rename_i ho
  split at h
  ·rename_i ha;have :=aO (aO h);cases this;exact A6 (nR:=false) ho ha
  ·cases h;exact cI
 ·rename_i ho
  split at h
  ·rename_i ha;have :=aO (aO h);cases this;exact A6 (nR:=true) ho ha
  ·cases h;exact cI
 ·rename_i ho;obtain⟨os,h,Bn⟩:=fF h;cases h;exact Ik ho Bn
 ·rename_i ho;obtain⟨os,h,Bn⟩:=fF (aO h);cases h;exact Ie ho Bn
 ·rename_i ho;obtain⟨os,h,Bn⟩:=fF (aO h);cases h;exact Ij ho Bn
 ·rename_i ho
  split at h
  ·rename_i ha ht;exact Kk ho ha ht (aO h)
  ·cases h;exact cI
 ·rename_i ho;obtain⟨os,h,Bn⟩:=fF (aO h);cases h;exact FG ho Bn
 ·cases h;exact cI
def EL (d:Option Tmp)(v:af)(tm:Tm):Tm:=
 match d with
 |some d=>sK d v tm
 |none=>tm
def Zb (P:aE)(nt:Nat)(o:hZ):Prop:=(∀x∈o.op.operands,qV nt P.globals.size x=true)/\(∀d,o.dst=some d->d<512)
def p8 (P:aE)(call:cL)(nt:Nat)(ops:Array hZ)(i:Nat)(tm:Tm)(m:Mem)(df:Df)(eG:Tm)(m':Mem)(me:Df):Prop:=
 ∃o,ops[i]?=some o/\Zb P nt o/\(∀j want,o.guard=some (j,want)->∃g,(ops[j]?).bind (·.dst)=some g/\g<nt/\g<512)/\
  ((cT ops o tm=true/\∃v,yJ P call o tm m df v m' me/\eG=EL o.dst v tm)\/(cT ops o tm=false/\eG=EL o.dst undef tm/\m'=m/\me=df))
theorem AW {nt i:Nat}{ops:Array hZ}{rest f:iI}(h:QG P nt ops i rest=some f){call:cL}{tm:Tm}{m:Mem}{df:Df}{r:Ss}(hf:f call tm m df=some r):
  ∃eG m' me,p8 P call nt ops i tm m df eG m' me/\rest call eG m' me=some r:=by
 unfold QG at h
 split at h
 ·cases h
 ·rename_i o ho
  split at h
  ·rename_i hg
   split at h
   ·cases h
   ·rename_i op dG;have hs:=H8 dG;have nG:∀x∈o.op.operands,qV nt P.globals.size x=true:=fun x hx=>aV.1 hg x (by simpa using hx)
    split at h
    ·rename_i j3;have hw:∀tm,cT ops o tm=true:=fun tm=>by unfold cT;rw[j3]
     split at h
     ·rename_i d hd;obtain⟨abS,h⟩:=jx h;cases h;obtain⟨v,m',me,hk,OM⟩:=hs _ _ _ _ _ _ hf;refine⟨_,m',me,⟨o,ho,⟨nG,fun d' CJ=>by rw[hd]at CJ;cases CJ;exact abS⟩,fun j w hj=>(by rw[j3]at hj;cases hj),.inl ⟨hw tm,v,OM,rfl⟩⟩,?_⟩;rw[hd];exact hk
     ·rename_i hd;cases h;obtain⟨v,m',me,hk,OM⟩:=hs _ _ _ _ _ _ hf;refine⟨_,m',me,⟨o,ho,⟨nG,fun d' CJ=>by rw[hd]at CJ;cases CJ⟩,fun j w hj=>(by rw[j3]at hj;cases hj),.inl ⟨hw tm,v,OM,rfl⟩⟩,?_⟩;rw[hd];exact hk
    ·rename_i j want j3
     split at h
     ·rename_i g WW
      split at h
      ·rename_i hgn;rw[jT,jE]at hgn;obtain⟨ahP,h⟩:=jx h;have hgs:∀j' w,o.guard=some (j',w)->∃g,(ops[j']?).bind (·.dst)=some g/\g<nt/\g<512:=fun j' w hj=>by rw[j3]at hj;cases hj;exact⟨g,WW,hgn,ahP⟩
       have hw:∀tm,cT ops o tm=(match de g tm with | .bool b=>b==want|_=>false):=fun tm=>by unfold cT;rw[j3];simp only[WW]<;>rfl
       split at h
       ·rename_i d hd;obtain⟨abS,h⟩:=jx h;cases h;have hdd:∀d',o.dst=some d'->d'<512:=fun d' CJ=>by rw[hd]at CJ;cases CJ;exact abS
        have skip:cT ops o tm=false->rest call (sK d undef tm) m df=some r->∃eG m' me,p8 P call nt ops i tm m df eG m' me/\rest call eG m' me=some r:=fun Hz hr=>
         ⟨_,m,df,⟨o,ho,⟨nG,hdd⟩,hgs,.inr ⟨Hz,rfl,rfl,rfl⟩⟩,by rw[hd];exact hr⟩
        have go:cT ops o tm=true->op call tm m df (UZ (sK d) rest call tm)=some r->∃eG m' me,p8 P call nt ops i tm m df eG m' me/\rest call eG m' me=some r:=fun zj hr=>by
         obtain⟨v,m',me,hk,OM⟩:=hs _ _ _ _ _ _ hr;exact⟨_,m',me,⟨o,ho,⟨nG,hdd⟩,hgs,.inl ⟨zj,v,OM,rfl⟩⟩,by rw[hd];exact hk⟩
        unfold Fy at hf
        split at hf
        ·rename_i hb;cases want with
         |true=>exact go (by rw[hw,hb];rfl) hf
         |false=>exact skip (by rw[hw,hb];rfl) hf
        ·rename_i hb;cases want with
         |true=>exact skip (by rw[hw,hb];rfl) hf
         |false=>exact go (by rw[hw,hb];rfl) hf
        ·rename_i j8 iW;refine skip ?_ hf;rw[hw]
         split
         ·rename_i b hb;cases b
          ·exact absurd hb iW
          ·exact absurd hb j8
         ·rfl
       ·rename_i hd;cases h;have hdd:∀d',o.dst=some d'->d'<512:=fun d' CJ=>by rw[hd]at CJ;cases CJ
        have skip:cT ops o tm=false->rest call tm m df=some r->∃eG m' me,p8 P call nt ops i tm m df eG m' me/\rest call eG m' me=some r:=fun Hz hr=>
         ⟨_,m,df,⟨o,ho,⟨nG,hdd⟩,hgs,.inr ⟨Hz,rfl,rfl,rfl⟩⟩,by rw[hd];exact hr⟩
        have go:cT ops o tm=true->op call tm m df (noK rest call tm)=some r->∃eG m' me,p8 P call nt ops i tm m df eG m' me/\rest call eG m' me=some r:=fun zj hr=>by
         obtain⟨v,m',me,hk,OM⟩:=hs _ _ _ _ _ _ hr;exact⟨_,m',me,⟨o,ho,⟨nG,hdd⟩,hgs,.inl ⟨zj,v,OM,rfl⟩⟩,by rw[hd];exact hk⟩
        unfold Fx at hf
        split at hf
        ·rename_i hb;cases want with
         |true=>exact go (by rw[hw,hb];rfl) hf
         |false=>exact skip (by rw[hw,hb];rfl) hf
        ·rename_i hb;cases want with
         |true=>exact skip (by rw[hw,hb];rfl) hf
         |false=>exact go (by rw[hw,hb];rfl) hf
        ·rename_i j8 iW;refine skip ?_ hf;rw[hw]
         split
         ·rename_i b hb;cases b
          ·exact absurd hb iW
          ·exact absurd hb j8
         ·rfl
      ·cases h
     ·cases h
  ·cases h
end
end Go.AM
namespace Go.AM
open Go Go.Conc
def Perm.or(R E:Perm):Perm:=⟨fun b o=>R.rd b o\/E.rd b o,fun b o=>R.wr b o\/E.wr b o,fun b=>R.ob b\/E.ob b,R.deaf⟩
structure vN (R:Perm)(w:aA):Prop where
 rd:∀b o,R.rd b o->b<w.heap.size
 wr:∀b o,R.wr b o->R.rd b o
 ob:∀b,R.ob b->b<w.heap.size/\w.shape? b=none
theorem vN.keeps{R R':Perm}{w aR:aA}(h:vN R w)(k:bD R' w aR):vN R aR:=
 ⟨fun b o x=>bq (h.rd b o x) k.size,h.wr,fun b x=>⟨bq (h.ob b x).1 k.size,by rw[k.shape b (h.ob b x).1];exact(h.ob b x).2⟩⟩
theorem bD.sub{R R':Perm}{w aR:aA}(h:bD R w aR)(hr:∀b o,R'.rd b o->R.rd b o)(ho:∀b,R'.ob b->R.ob b):bD R' w aR:=
 ⟨h.tape,h.os,h.output,h.size,h.shape,fun b o x=>h.cell b o (hr b o x),h.qA,fun b x=>h.obj b (ho b x)⟩
theorem bD.left{R E:Perm}{w aR:aA}(h:bD (R.or E) w aR):bD R w aR:=h.sub (fun _ _=> .inl) fun _=> .inl
theorem bD.right{R E:Perm}{w aR:aA}(h:bD (R.or E) w aR):bD E w aR:=h.sub (fun _ _=> .inr) fun _=> .inr
def EvW (R:Perm)(e:Event):Prop:=nL R e\/e.loc= .mark .disable\/e.loc= .mark .enable
structure Stepped (P:aE)(main:Bool)(R:Perm)(g:au)(w:aA)(R':Perm)(g':au)(w':aA)(es:Array Event):Prop where
 step:stepG P main g w= .go g' w' es
 MQ:sG R w.heap.size w w'
 ev:∀e∈es,EvW R e
 within:eS R R' w.heap.size
 deaf:R'.deaf=deafBehind R.deaf es
 low:vN R w->vN R' w'
structure gp (P:aE)(main:Bool)(J:Nat->Perm->au->aA->Prop):Prop where
 mono:∀{n:Nat}{R:Perm}{g:au}{w:aA},J n R g w->J (n+1) R g w
 step:∀{n:Nat}{R:Perm}{g:au}{w:aA},g.status= .running->(∀aR,bD R w aR->∃g' w' es R',Stepped P main R g aR R' g' w' es/\J n R' g' w')->J (n+1) R g w
theorem gp.le{P:aE}{main:Bool}{J:Nat->Perm->au->aA->Prop}(h:gp P main J){n m:Nat}(hn:n<=m){R:Perm}{g:au}{w:aA}(hj:J n R g w):J m R g w:=by
 induction hn with
 |refl=>exact hj
 |step _ ih=>exact h.mono ih
theorem nV (d:Nat):∀(l:List Event),(∀e∈l,e.loc≠ .mark .disable/\e.loc≠ .mark .enable)->deafBehind d l.toArray=d:=by
 intro l h;unfold deafBehind;simp only[List.foldl_toArray]
 induction l with
 |nil=>rfl
 |cons e l ih=>
  have h1:=h e cK;simp only[List.foldl_cons];refine Eq.trans (congrArg (fun x=>List.foldl _ x l) ?_) (ih fun x hx=>h x (by simp[hx]))
  split
  ·rename_i hh;exact absurd hh h1.1
  ·rename_i hh;exact absurd hh h1.2
  ·rfl
theorem nL.loc{R:Perm}{e:Event}(h:nL R e):e.loc≠ .mark .disable/\e.loc≠ .mark .enable:=by
 constructor<;>intro hl<;>unfold nL at h<;>rw[hl]at h<;>exact h
theorem kV {R:Perm}{es:Array Event}(h:∀e∈es,nL R e)(d:Nat):deafBehind d es=d:=by
 have :=nV d es.toList fun e he=>(h e (by simpa using he)).loc
 simpa using this
structure Apart (E R:Perm)(w:aA):Prop where
 cell:∀b o,E.rd b o->b<w.heap.size/\¬R.wr b o
 obj:∀b,E.ob b->b<w.heap.size/\¬R.ob b/\w.shape? b=none
 wf:∀b o,E.wr b o->E.rd b o
theorem Apart.within{E R R':Perm}{w w':aA}(h:Apart E R w)(k:eS R R' w.heap.size)(hs:w.heap.size<=w'.heap.size)(fQ:∀b,b<w.heap.size->w'.shape? b=w.shape? b):Apart E R' w':=
 ⟨fun b o he=>⟨bq (h.cell b o he).1 hs,fun hw=>(k.wr b o hw).elim (h.cell b o he).2 fun hn=>absurd (h.cell b o he).1 av⟩,
  fun b he=>⟨bq (h.obj b he).1 hs,fun hw=>(k.ob b hw).elim (h.obj b he).2.1 fun hn=>absurd (h.obj b he).1 av,by rw[fQ b (h.obj b he).1];exact(h.obj b he).2.2⟩,h.wf⟩
theorem Apart.Zr{E R:Perm}{w w':aA}(h:Apart E R w)(c:sG R w.heap.size w w'):bD E w w':=
 ⟨c.tape,c.os,c.output,c.size,fun b hb=>c.shape b hb,fun b o he=>c.cell b o (h.cell b o he).1 (h.cell b o he).2,fun b o hb=>c.qA b o hb,fun b he=>c.obj b (h.obj b he).1 (h.obj b he).2.1 (h.obj b he).2.2⟩
def ApC (E:Perm)(ρ:dL)(m:Mem):Prop:=∀b p x,ρ b=some p->m.base<=b->p.d<=x->x<p.d+p.room->m.pz b (x-p.d)->¬E.rd p.c x
theorem QH {m m':Mem}(hf:Fr m m')(hw:Wf m){b o:Nat}(hb:b<m.next)(h:m'.pz b o):m.pz b o:=by
 obtain⟨h1,h2,h3⟩:=h;have hh:bG m.bO b o=false:=by rw[<-hf.bO];exact h2
 have live:o<(m.blk b).cs.length->∃v,(m.blk b).cs[o]?=some (some v):=fun ho=>by
  have e:=List.getElem?_eq_getElem ho;cases hv:(m.blk b).cs[o]with
  |none=>exact absurd hv ((hw.live b).1 _ (List.getElem_mem ho))
  |some v=>exact⟨v,by rw[e,hv]⟩
 rcases hf.blk b with e|⟨_,h4|⟨_,_,_,h4⟩|⟨_,_,h4,h5⟩|⟨_,h4,_⟩⟩
 ·rw[e]at h1;exact⟨h1,hh,live⟩
 ·omega
 ·rw[h4]at h1;cases h1
 ·rw[h5]at h1;exact absurd h1 h4
 ·exact⟨h4,hh,live⟩
theorem ApC.step{E:Perm}{ρ bH:dL}{m m':Mem}{w:aA}(h:ApC E ρ m)(hw:Wf m)(ha:Apart E (aB ρ m) w)(hf:Fr m m')(hold:∀b,b<m.next->bH b=ρ b)(hwi:eS (aB ρ m) (aB bH m') w.heap.size):ApC E bH m':=by
 intro b p x hp hb h1 h2 h3 he
 by_cases cN:b<m.next
 ·rw[hold b cN]at hp;exact h b p x hp (by rw[<-hf.base];exact hb) h1 h2 (QH hf hw cN h3) he
 ·rcases hwi.wr p.c x ⟨b,p,hp,rfl,h1,h2,h3,.inl (by rw[hf.floor];have :=hw.fl;omega)⟩with g|g
  ·exact(ha.cell _ _ he).2 g
  ·have :=(ha.cell _ _ he).1;omega
structure dd (P:aE)(E:Perm)(bI:aA)(σ:nq)(ρ:dL)(m:Mem)(w:aA):Prop where
 ku:fO ρ m w
 rest:bD E bI w
 apart:Apart E (aB ρ m) w
 qy:∀g,g<P.globals.size->∃p,ρ g=some p/\p.c=g/\p.d=0
 fS:GOk σ ρ m
 wf:Wf m
 K':ApC E ρ m
 ew:∀b o,E.wr b o->¬(aB ρ m).rd b o
theorem fO.low{ρ:dL}{m:Mem}{w:aA}(h:fO ρ m w):vN (aB ρ m) w:=by
 refine⟨fun b o hr=>?_,fun b o hr=>lW hr,fun b hr=>?_⟩
 ·obtain⟨x,p,h1,rfl,_⟩:=hr;exact h.rr x p h1
 ·obtain⟨x,p,h1,rfl,h2,h3⟩:=hr;refine⟨h.rr x p h1,?_⟩;rcases h2 with h2|h2
  ·obtain⟨es,h4,_⟩:=h.maps x p h1 h2 h3;unfold aA.shape?;rw[h4]
  ·obtain⟨_,h4⟩:=h.lN x p h1 h2 h3;unfold aA.shape?;rw[h4]
section
variable {P:aE}{E:Perm}{bI:aA}{σ:nq}{ρ:dL}{m:Mem}{w:aA}
theorem xY (h:fO ρ m w)(a:Apart E (aB ρ m) w):vN ((aB ρ m).or E) w:=
 ⟨fun b o x=>x.elim (h.low.rd b o) fun y=>(a.cell b o y).1,fun b o x=>x.elim (fun y=> .inl (h.low.wr b o y)) fun y=> .inr (a.wf b o y),fun b x=>x.elim (h.low.ob b) fun y=>⟨(a.obj b y).1,(a.obj b y).2.2⟩⟩
theorem dd.low(h:dd P E bI σ ρ m w):vN ((aB ρ m).or E) w:=xY h.ku h.apart
theorem dd.keeps{aR:aA}(h:dd P E bI σ ρ m w)(k:bD ((aB ρ m).or E) w aR):dd P E bI σ ρ m aR:=
 ⟨h.ku.keeps k.left,h.rest.trans k.right,h.apart.within (eS.refl _ _) k.size k.shape,h.qy,h.fS,h.wf,h.K',h.ew⟩
theorem dd.left{bH:dL}{m':Mem}{w':aA}(h:dd P E bI σ ρ m w)(l:Left ρ m w bH m' w')(f:jD m m')(c:sG (aB ρ m) w.heap.size w w'):dd P E bI σ bH m' w':=
 ⟨l.ku,h.rest.trans (h.apart.Zr c),h.apart.within l.within c.size c.shape,fun g hg=>let⟨p,h1,h2⟩:=h.qy g hg;⟨p,l.le _ _ h1,h2⟩,h.fS.fr f.1 l.le l.old,f.2.2 h.wf,h.K'.step h.wf h.apart f.1 l.old l.within,
  fun b o he hr=>(l.within.rd b o hr).elim (h.ew b o he) fun hN=>by have :=(h.apart.cell b o (h.apart.wf b o he)).1;omega⟩
theorem eS.or{R R' E:Perm}{N:Nat}(h:eS R R' N):eS (R.or E) (R'.or E) N:=
 ⟨fun b o x=>x.elim (fun y=>(h.rd b o y).imp .inl id) fun y=> .inl (.inr y),fun b o x=>x.elim (fun y=>(h.wr b o y).imp .inl id) fun y=> .inl (.inr y),fun b x=>x.elim (fun y=>(h.ob b y).imp .inl id) fun y=> .inl (.inr y)⟩
theorem sG.or{R E:Perm}{N:Nat}{w w':aA}(h:sG R N w w'):sG (R.or E) N w w':=
 ⟨h.tape,h.os,h.output,h.size,h.shape,fun b o hb hw=>h.cell b o hb fun x=>hw (.inl x),h.qA,fun b hb ho=>h.obj b hb fun x=>ho (.inl x)⟩
theorem nL.or{R E:Perm}{e:Event}(h:nL R e):nL (R.or E) e:=by
 unfold nL at h⊢
 split at h
 ·refine⟨h.1,?_⟩
  split
  ·rename_i hw;have :=h.2;rw[bL hw]at this;exact .inl this
  ·rename_i hw;have :=h.2;rw[bT hw]at this;exact .inl this
 ·exact⟨.inl h.1,h.2⟩
 ·exact h
 ·exact h
theorem mI {main:Bool}{J:Nat->Perm->au->aA->Prop}(hJ:gp P main J){R:Perm}{g g':au}{n:Nat}(hr:g.status= .running)(hs:∀w,stepG P main g w= .go g' w #[])
  (h:∀aR,bD R w aR->J n R g' aR):J (n+1) R g w:=
 hJ.step hr fun aR hk=>⟨g',aR,#[],R,⟨hs aR,sG.refl _ _ _,fun e he=>by simp at he,eS.refl _ _,rfl,id⟩,h aR hk⟩
variable {main:Bool}{J:Nat->Perm->au->aA->Prop}{b:Frame}{a:Act}{k:List Item}{cs:List Frame}{ops:Array hZ}{i:Nat}{rest:List Nat}{o:hZ}
theorem z6 (hJ:gp P main J)(ho:ops[i]?=some o)(hw:Region.wanted o (yielded ops a.tmps)=true)(hk:b.kind≠ .early)(H:dd P E bI σ ρ m w){ev:cq->af}
  (eh:∀x∈o.op.operands,bg ρ (ev x) (a.eval x)){v:af}{m':Mem}(dG:dJ P ev o m=some (v,m')){l:Nat}
  (hn:∀bH v' w',ρ.le bH->(∀b,b<m.next->bH b=ρ b)->dd P E bI σ bH m' w'->bg bH v v'->J l ((aB bH m').or E) (G (b.at (a.put o.dst v') (.inRegion ops rest::k)) cs) w'):
  J (l+1) ((aB ρ m).or E) (G (b.at a (.inRegion ops (i::rest)::k)) cs) w:=by
 refine hJ.step rfl fun aR j2=>?_
 have gI:=H.keeps j2;have Cn:=QE dG;obtain⟨nx,w',gR,⟨bH,hL,v',hv,hy⟩,hc,he⟩:=mF (ai _) (De gI.ku (ai _) eh dG);obtain⟨evs,ym,jA⟩:=he #[];have oa:∀e∈listed P b.fn a o aR,nL (aB ρ m) e:=fun e hx=>jA e (by have :=mem_listed hx;rw[ym]at this;simpa using this)
 have hH:=gI.left hL Cn hc;have zk:=hn bH v' w' hL.le hL.old hH hv;have fp:∀g',stepG P main (G (b.at a (.inRegion ops (i::rest)::k)) cs) aR= .go g' w' (listed P b.fn a o aR)->
   Stepped P main ((aB ρ m).or E) (G (b.at a (.inRegion ops (i::rest)::k)) cs) aR ((aB bH m').or E) g' w' (listed P b.fn a o aR):=fun g' hs=>
  ⟨hs,hc.or,fun e hx=> .inl (oa e hx).or,hL.within.or,by
   show m'.deaf=deafBehind m.deaf _
   rw[kV oa,Cn.2.1],fun _=>hH.low⟩
 rcases hy with rfl|⟨rfl,rfl,rfl⟩
 ·exact⟨_,w',_,_,fp _ (stepG_value ho hw hk gR),zk⟩
 ·exact⟨_,w',_,_,fp _ (stepG_none ho hw hk gR),zk⟩
theorem qe (hJ:gp P main J)(ho:ops[i]?=some o)(hw:Region.wanted o (yielded ops a.tmps)=false){R:Perm}{l:Nat}
  (hn:∀aR,bD R w aR->J l R (G (b.at (a.put o.dst undef) (.inRegion ops rest::k)) cs) aR):J (l+1) R (G (b.at a (.inRegion ops (i::rest)::k)) cs) w:=
 mI hJ rfl (fun w=>stepG_unwanted ho hw) hn
end
end Go.AM
