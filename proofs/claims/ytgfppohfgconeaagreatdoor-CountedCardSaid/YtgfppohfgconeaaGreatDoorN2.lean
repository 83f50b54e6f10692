/-
  What the claim stands on, part 2.
-/
import Derived.Test.YtgfppohfgconeaaGreatDoorN1
import Derived.Orders
import Derived.Conc.DeferLaws
import Derived.Conc.Own5
import Derived.Conc.QuitsD
set_option linter.unusedVariables false
set_option linter.unusedSimpArgs false
open Go renaming Value → ae, Goroutine → ak, World → ay, Program → aD, TypeId → aM, IntKind → bX, Operand → cd, Oper → im
open Bool renaming and_eq_true → ag, false_eq_true → bO
open Option.some renaming injEq → ah
open Nat renaming le_refl → ai, lt_of_lt_of_le → a8, le_trans → cF
open Prod.mk renaming injEq → au
open Option renaming map_eq_some_iff → aB, bind_some → aX, bind_eq_some_iff → bE, map_some → cT, isSome_iff_exists → iz
open List renaming all_eq_true → aE
namespace Go.AM
open Go
section
variable {P:aD}{ρ:cZ}{m:Mem}{w:ay}{N:Nat}
theorem pE {w:ay}{c:Nat}{o o':Obj}(ho:w.heap[c]?=some o')(h1:∀C t f,o'≠ .cells C t f)(h2:∀C t f,o≠ .cells C t f)(b x:Nat):
  ({w with heap:=w.heap.setIfInBounds c o}:ay).cell? ⟨b,x,none⟩=w.cell? ⟨b,x,none⟩/\({w with heap:=w.heap.setIfInBounds c o}:ay).shape? b=w.shape? b/\({w with heap:=w.heap.setIfInBounds c o}:ay).frozen? ⟨b,x,none⟩=w.frozen? ⟨b,x,none⟩:=by
 have cA:c<w.heap.size:=by
  rcases Nat.lt_or_ge c w.heap.size with h|h
  ·exact h
  ·rw[Array.getElem?_eq_none h]at ho;cases ho
 unfold ay.cell? ay.shape? ay.frozen?;simp only[Array.getElem?_setIfInBounds]
 by_cases hb:c=b
 ·subst hb;simp only[if_true,bK cA,ho];cases o with
  |cells C t f=>exact absurd rfl (h2 C t f)
  |_=>cases o' with
   |cells C t f=>exact absurd rfl (h1 C t f)
   |_=>exact⟨by first |rfl|trivial,by first |rfl|trivial,by first |rfl|trivial⟩
 ·simp only[bZ hb];refine⟨?_,?_,?_⟩<;>first |rfl|trivial
theorem fI.setObj(h:fI ρ m w){b:Nat}{p:Pl}(hp:ρ b=some p){k:dU}(hk:(m.blk b).kind=2\/(m.blk b).kind=3)(Rg:k.kind=(m.blk b).kind){o o':Obj}(ho:w.heap[p.c]?=some o')(h1:∀C t f,o'≠ .cells C t f)(h2:∀C t f,o≠ .cells C t f)
  (VC:k.kind=2->∃js,o= .map js k.clock/\bC (vb ρ) k.es.toList js.toList)(Ji:k.kind=3->p.d=0/\o= .stringIter k.str k.pos):
  Left ρ m w ρ (m.aZ b k) {w with heap:=w.heap.setIfInBounds p.c o}:=by
 have fj:∀b',(m.aZ b k).blk b'=if b=b' then{k with a9:=m.tick}else m.blk b':=fun b'=>Mem.dy ..
 have iH:∀b',((m.aZ b k).blk b').kind=(m.blk b').kind:=fun b'=>by rw[fj];split<;>simp_all
 have cA:p.c<w.heap.size:=h.rr b p hp;have nR:∀b' x v,(m.aZ b k).cell b' x=some v->b≠b'/\m.cell b' x=some v:=by
  intro b' x v hc;have hkc:=(Mem.eD hc).1;rw[iH]at hkc;have dO:b≠b':=by rintro rfl;omega
  refine⟨dO,?_⟩;unfold Mem.cell at hc⊢;rw[fj,bZ dO]at hc;exact hc
 have Vz:∀b' x,(m.aZ b k).nI b' x->m.nI b' x:=by
  rintro b' x ⟨g1,g2,g3⟩;rw[iH]at g1;have dO:b≠b':=by rintro rfl;omega
  rw[fj,bZ dO]at g3;exact⟨g1,g2,g3⟩
 have Vy:∀b' x,(m.aZ b k).okW b' x->m.okW b' x:=fun b' x hx=>⟨Vz _ _ hx.1,hx.2⟩
 have Jb:∀b' p',b≠b'->ρ b'=some p'->(m.blk b').kind≠0->p.c≠p'.c:=fun b' p' dO du gf wE=>by
  have :=(h.sep b b' p p' dO hp du aj gf wE).1;omega
 refine⟨ρ.le_refl,⟨h.my,fun b' p' du gf=>?_,fun b' p' x v du hc=>?_,fun b' p' x du hx gf nA=>?_,fun b' p' du gf pZ=>?_,fun b' p' du gf pZ=>?_,fun x9 x8 nH oG dO h₁ AF k₁ k₂ hc=>?_,fun b' p' du=>?_,fun b' p' du gf wD=>?_⟩,⟨?_,?_,?_⟩,fun _ _=>rfl⟩
 ·rw[iH]at gf;have dO:b≠b':=by rintro rfl;omega
  rw[fj,bZ dO];obtain⟨g1,g2,e,n,g3,g4⟩:=h.cells b' p' du gf;exact⟨g1,g2,e,n,by rw[(pE ho h1 h2 p'.c 0).2.1];exact g3,g4⟩
 ·obtain⟨_,E5⟩:=nR _ _ _ hc;obtain⟨v',g1,g2⟩:=h.lP b' p' x v du E5;exact⟨v',by rw[(pE ho h1 h2 _ _).1];exact g1,g2⟩
 ·rw[(pE ho h1 h2 _ _).2.2];rw[iH]at gf;exact h.thaw b' p' x du hx gf nA
 ·rw[iH]at gf
  by_cases hb:b=b'
  ·subst hb;obtain rfl:p=p':=by rw[hp]at du;exact Option.some.inj du
   obtain⟨js,rfl,g⟩:=VC aj;rw[fj,bK rfl];exact⟨js,by simp[cA],g⟩
  ·rw[fj,bZ hb];obtain⟨js,g1,g2⟩:=h.maps b' p' du gf pZ;exact⟨js,by rw[Array.getElem?_setIfInBounds_ne (Jb b' p' hb du aj)];exact g1,g2⟩
 ·rw[iH]at gf
  by_cases hb:b=b'
  ·subst hb;obtain rfl:p=p':=by rw[hp]at du;exact Option.some.inj du
   obtain⟨g,rfl⟩:=Ji aj;rw[fj,bK rfl];exact⟨g,by simp[cA]⟩
  ·rw[fj,bZ hb];obtain⟨g1,g2⟩:=h.lC b' p' du gf pZ;exact⟨g1,by rw[Array.getElem?_setIfInBounds_ne (Jb b' p' hb du aj)];exact g2⟩
 ·rw[iH]at k₁ k₂⊢;rw[iH];exact h.sep x9 x8 nH oG dO h₁ AF k₁ k₂ hc
 ·simpa using h.rr b' p' du
 ·rw[iH]at gf;have dO:b≠b':=by rintro rfl;omega
  rw[fj,bZ dO]at wD;exact h.vars b' p' du gf wD
 ·rintro c x ⟨b',p',g1,g2,g3,g4,g5⟩;exact .inl ⟨b',p',g1,g2,g3,g4,Vz _ _ g5⟩
 ·rintro c x ⟨b',p',g1,g2,g3,g4,g5⟩;exact .inl ⟨b',p',g1,g2,g3,g4,Vy _ _ g5⟩
 ·rintro c ⟨b',p',g1,g2,g3,g4⟩;exact .inl ⟨b',p',g1,g2,by rwa[iH]at g3,g4⟩
theorem pj {R:Perm}{c:Nat}{o o':Obj}(ho:w.heap[c]?=some o')(h1:∀C t f,o'≠ .cells C t f)(h2:∀C t f,o≠ .cells C t f)(h3:o.isChan=false)(hr:R.ob c){Q:Unit->ay->Prop}(hq:Q () {w with heap:=w.heap.setIfInBounds c o}):dA P R N (setObj c o) Q w:=
 ⟨⟨o',ho,h1⟩,h2,h3,hr,hq⟩
theorem pq {R:Perm}{c:Nat}{o:Obj}(ho:w.heap[c]?=some o)(h1:∀C t f,o≠ .cells C t f)(h3:o.isChan=false)(hr:R.ob c){Q:Obj->ay->Prop}(hq:Q o w):dA P R N (getObj c) Q w:=
 ⟨o,ho,h1,h3,hr,hq⟩
theorem Lp {R:Perm}{o:Obj}{Q:Nat->ay->Prop}(hq:Q w.heap.size {w with heap:=w.heap.push o}):dA P R N (newObj o) Q w:=hq
theorem JJ (h:fI ρ m w){ly:Array aM}{ty:aM}{d d' s s' v:ae}{m':Mem}(hd:aP ρ d d')(hs:aP ρ s s')(ha:xU P ly d s m=some (v,m'))
  {Q:ae->ay->Prop}(hq:∀v' w' bq,Left ρ m w bq m' w'->aP bq v v'->Q v' w'):dA P (aA ρ m) N (Builtin.copy_ ly ty #[d',s']) Q w:=by
 unfold xU at ha
 split at ha
 ·rename_i e base dl cap ei;obtain⟨st,LZ,ei⟩:=bE.1 ei
  split at ha
  ·rename_i size sl Od hlen
   split at ha
   ·rename_i sb sn sc;obtain⟨cells,y8,ha⟩:=bE.1 ha;obtain⟨uq,ig,rfl,nS⟩:=qH.of hd;unfold Builtin.copy_;simp only[LZ,List.getElem?_toArray,List.getElem?_cons_zero,List.getElem?_cons_succ];rw[ar];refine aH ei ?_;simp only[];rw[ar];refine B3 hs hlen ?_;rw[ar];refine dx Od ?_;rw[ar];refine oL h hs y8 fun xj xF=>?_
    split at ha
    ·rename_i b o;obtain⟨pl,dd,_,rfl,_⟩:=nS;obtain⟨m2,yn,VY⟩:=aB.1 ha;simp only[au]at VY;obtain⟨rfl,rfl⟩:=VY;simp only[];rw[ar];exact pf h dd yn xF fun w' hL _=>hq _ _ _ hL (bM rfl)
    ·obtain⟨rfl,_⟩:=nS;simp only[ah,au]at ha;obtain⟨rfl,rfl⟩:=ha;exact hq _ _ _ (Left.refl h) (bM rfl)
    ·cases ha
   ·cases ha
  ·cases ha
 ·cases ha
theorem Hm (h:fI ρ m w){ly:Array aM}{ty:aM}{x x' v:ae}{m':Mem}(hx:aP ρ x x')(ha:mY P ly x m=some (v,m'))
  {Q:ae->ay->Prop}(hq:∀v' w' bq,Left ρ m w bq m' w'->aP bq v v'->Q v' w'):dA P (aA ρ m) N (Builtin.clear_ ly ty #[x']) Q w:=by
 unfold mY at ha
 split at ha
 ·rename_i e base n cap ei;obtain⟨st,LZ,ei⟩:=bE.1 ei;obtain⟨uq,ig,rfl,nS⟩:=qH.of hx;unfold Builtin.clear_;simp only[LZ,List.getElem?_toArray,List.getElem?_cons_zero];rw[ar];refine aH ei ?_
  split at ha
  ·obtain⟨rfl,_⟩:=nS;simp only[ah,au]at ha;obtain⟨rfl,rfl⟩:=ha;exact hq _ _ _ (Left.refl h) jT
  ·rename_i b o;obtain⟨pl,dd,_,rfl,_⟩:=nS
   split at ha
   ·rename_i hn;subst hn;simp only[ah,au]at ha;obtain⟨rfl,rfl⟩:=ha;exact hq _ _ _ (Left.refl h) jT
   ·rename_i hn;obtain⟨z,hz,ha⟩:=bE.1 ha;obtain⟨m2,yn,VY⟩:=aB.1 ha;simp only[au]at VY;obtain⟨rfl,rfl⟩:=VY;obtain⟨k,rfl⟩:∃k,n=k+1:=⟨n-1,aj⟩
    show dA P (aA ρ m) N (do storeCells ⟨pl.c,pl.d+o,none⟩ (Builtin.zeroCells (<-zeroValue e).cells (k+1)).toList;pure (ae.tuple #[])) Q w
    rw[ar];refine eG hz ?_;rw[ar];exact pf h dd yn (gS (Av (jG hz).1 _)) fun w' hL _=>hq _ _ _ hL jT
  ·cases ha
 ·cases ha
theorem BU:∀{l:List ae}{bs:List UInt8},l.mapM (m:=Option) (fun v=>match v with | .int .u8 n=>some (UInt8.ofNat n.toNat)|_=>none)=some bs->l.all cG=true
 | [],_,_=>rfl
 |v::l,bs,h=>by
  rw[List.mapM_cons]at h;simp only[Option.bind_eq_bind,bE,Option.pure_def,ah]at h;obtain⟨x,hx,ys,hys,rfl⟩:=h;rw[List.all_cons,BU hys,Bool.and_true]
  split at hx
  ·rfl
  ·cases hx
theorem CX {R:Perm}{f:ae->ByteArray->Sem (ForInStep ByteArray)}(hf:∀n s,f (.int .u8 n) s=pure (.yield (s.push (UInt8.ofNat n.toNat)))){Q:ByteArray->ay->Prop}:
  ∀(l:List ae) (s:ByteArray) (bs:List UInt8),l.mapM (m:=Option) (fun v=>match v with | .int .u8 n=>some (UInt8.ofNat n.toNat)|_=>none)=some bs->Q ⟨s.data++bs.toArray⟩ w->dA P R N (forIn l s f) Q w
 | [],s,bs,h,hq=>by
  simp at h;subst h
  show Q s w
  simpa using hq
 |v::l,s,bs,h,hq=>by
  rw[List.mapM_cons]at h;simp only[Option.bind_eq_bind,bE,Option.pure_def,ah]at h;obtain⟨x,hx,ys,hys,rfl⟩:=h
  split at hx
  ·rename_i n;simp only[ah]at hx;subst hx;rw[List.forIn_cons,hf,pure_bind];refine CX hf l (s.push (UInt8.ofNat n.toNat)) ys hys ?_;have e:(s.push (UInt8.ofNat n.toNat)).data++ys.toArray=s.data++(UInt8.ofNat n.toNat::ys).toArray:=by
    show s.data.push _++ys.toArray=_
    simp
   rw[e];exact hq
  ·cases hx
theorem EK {R:Perm}{r:Nat}{x:Option (aM×Nat)}(h:w.shape? r=x){Q:Option (aM×Nat)->ay->Prop}(hq:Q x w):dA P R N (shape r) Q w:=by
 show Q (w.shape? r) w
 rw[h];exact hq
theorem CJ (h:fI ρ m w)(hN:N<=w.heap.size){s d:aM}{x x' v:ae}{m':Mem}(hx:aP ρ x x')(ha:eU P s d x m=some (v,m'))
  {Q:ae->ay->Prop}(hq:∀v' w' bq,Left ρ m w bq m' w'->aP bq v v'->Q v' w'):dA P (aA ρ m) N (convert s d x') Q w:=by
 unfold eU at ha
 split at ha
 ·rename_i t b o hs hd;obtain⟨pl,dd,_,rfl⟩:=cH.1 hx;simp only[]at ha
  split at ha
  ·rename_i k hk
   split at ha
   ·rename_i hc;simp only[ag,beq_iff_eq,jE]at hc;simp only[ah,au]at ha;obtain⟨rfl,rfl⟩:=ha;obtain⟨_,hcr,e,n,fN,hn⟩:=h.cells b pl dd hc.1;unfold convert;rw[ar];refine aH hs ?_;rw[ar];refine aH hd ?_
    show dA P (aA ρ m) N (Conv.unsafePointer s d (.pointer (some ⟨pl.c,pl.d+o,none⟩))) Q w
    unfold Conv.unsafePointer;rw[ar];refine aH hs ?_;rw[ar];refine aH hd ?_;simp only[];rw[ar];have I8:∀{Q:Addr->ay->Prop},Q ⟨pl.c,pl.d+o,none⟩ w->dA P (aA ρ m) N (Conv.seenAt ⟨pl.c,pl.d+o,none⟩) Q w:=by
     intro Q hQ;unfold Conv.seenAt viewAt;simp only[bind_assoc];rw[ar]
     show dA P (aA ρ m) N _ Q w
     rw[fN];exact hQ
    refine I8 ?_;unfold cellsIn;simp only[bind_assoc];rw[ar]
    show dA P (aA ρ m) N _ Q w
    rw[fN];simp only[pure_bind];rw[ar];refine dx hk ?_;rw[bZ (by simp;omega)];exact hq _ _ _ (Left.refl h) hx
   ·cases ha
  ·cases ha
 ·rename_i e str hs hd;obtain rfl:=(aG (by rfl)).1 hx
  split at ha
  ·rename_i he
   split at ha
   ·cases ha
   ·rename_i iB;simp only[ah,au]at ha;obtain⟨rfl,rfl⟩:=ha;unfold convert;rw[ar];refine aH hs ?_;rw[ar];refine aH hd ?_;simp only[];rw[ar];refine aH he ?_;simp only[];unfold Conv.stringToBytes;rw[ar];refine tH aj fun nc hn1 hn2=>?_
    rw[ar];refine pk ?_;generalize hC:(str.data.map fun b=>(ae.int .u8 b.toNat))++Array.replicate (nc-str.size) (ae.int .u8 0)=C;rw[ar];unfold markStringish;rw[ar];have fN:({w with drawn:=w.drawn+1,heap:=w.heap.push (.cells C e)}:ay).shape? w.heap.size=some (e,C.size):=by
     unfold ay.shape?;simp
    refine EK fN ?_;refine⟨hN,?_⟩;have hf:({w with drawn:=w.drawn+1,heap:=w.heap.push (.cells C e)}:ay).freeze ⟨w.heap.size,C.size,none⟩ 1={w with drawn:=w.drawn+1,heap:=w.heap.push (.cells C e (C.size,C.size+1))}:=by
     unfold ay.freeze;rw[bZ aj];have :(w.heap.push (.cells C e)).modify w.heap.size (fun
      | .cells c elem (lo,hi)=> .cells c elem (if lo==hi then(C.size,C.size+1)else(min lo C.size,max hi (C.size+1)))
      |o=>o)=w.heap.push (.cells C e (C.size,C.size+1)):=by
      apply Array.ext_getElem?;intro i;rw[Array.getElem?_modify]
      by_cases hi:w.heap.size=i
      ·subst hi;simp
      ·rw[bZ hi];rcases Nat.lt_or_ge i w.heap.size with g|g
       ·rw[Array.getElem?_push_lt g,Array.getElem?_push_lt g]
       ·rw[Array.getElem?_eq_none (by simp;omega),Array.getElem?_eq_none (by simp;omega)]
     exact congrArg (fun hp=>({w with drawn:=w.drawn+1,heap:=hp}:ay)) this
    show dA P (aA ρ m) N (pure (ae.slice (some ⟨w.heap.size,0,none⟩) str.size nc)) Q _
    rw[hf];have hn:=rj h;have hCs:C.size=nc:=by rw[<-hC];simp;show str.size+(nc-str.size)=nc;omega
    have kq:(m.alloc {kind:=1,sz:=1,cs:=str.data.toList.map fun b=>some (.int .u8 b.toNat)}).blk m.next={kind:=1,sz:=1,cs:=str.data.toList.map fun b=>some (.int .u8 b.toNat),a9:=m.tick}:=by rw[Mem.cf,bK rfl]
    have hL:Left ρ m w (ρ.put m.next ⟨w.heap.size,0,C.size,1⟩) (m.alloc {kind:=1,sz:=1,cs:=str.data.toList.map fun b=>some (.int .u8 b.toNat)}) {w with drawn:=w.drawn+1,heap:=w.heap.push (.cells C e (C.size,C.size+1))}:=by
     refine⟨cZ.tN hn _,(h.bump _).lay hn cY (o:= .cells C e (C.size,C.size+1)) rfl rfl (fun _=>?_) (fun hk=>by rw[kq]at hk;simp at hk) (fun hk=>by rw[kq]at hk;simp at hk),
      (mC (kX h _) rfl rfl rfl rfl _).trans (vt hn (ai _)),AR⟩
     rw[kq];refine⟨rfl,rfl,?_,C,e,(C.size,C.size+1),rfl,ai _,fun x hx gm=>by have h1:x<C.size:=hx;have h2:C.size<=x:=gm.1;omega,fun i v hi=>?_⟩
     ·simp only[List.length_map,Array.length_toList];show str.size<=C.size;omega
     ·rw[List.getElem?_map,aB]at hi;obtain⟨u,hu,hx⟩:=hi;obtain rfl:=Option.some.inj hx;refine⟨_,?_,bM rfl⟩;rw[<-hC];have cA:i<str.data.size:=by
       rcases Nat.lt_or_ge i str.data.size with g|g
       ·exact g
       ·rw[List.getElem?_eq_none (by simpa using g)]at hu;cases hu
      rw[Array.getElem?_append_left (by simpa using cA)];simp only[Array.getElem?_map,aB];exact⟨u,by simpa using hu,rfl⟩
    refine hq _ _ _ hL (bU.2 ⟨_,nc,cZ.kG ..,rfl,rfl,?_⟩);rw[bK rfl];refine⟨hn1,?_⟩
    show 0+nc*1<=C.size
    omega
  ·cases ha
 ·rename_i e a len cap hs hd
  split at ha
  ·rename_i he;obtain rfl:=(aG (by rfl)).1 hx;simp only[ah,au]at ha;obtain⟨rfl,rfl⟩:=ha;unfold convert;rw[ar];refine aH hs ?_;rw[ar];refine aH hd ?_;simp only[];rw[ar];refine aH he ?_;exact hq _ _ _ (Left.refl h) (bM rfl)
  ·rename_i b o he;obtain⟨l,hl,ha⟩:=bE.1 ha;obtain⟨bs,Xi,ha⟩:=aB.1 ha;simp only[au]at ha;obtain⟨rfl,rfl⟩:=ha;obtain⟨pl,ig,dd,_,rfl,_⟩:=bU.1 hx;unfold convert;rw[ar];refine aH hs ?_;rw[ar];refine aH hd ?_;simp only[];rw[ar];refine aH he ?_;simp only[];unfold Conv.bytesToString;simp only[];rw[ar];refine h.qN dd hl fun l' A1=>?_
   obtain rfl:=nG (BU Xi) A1;rw[ar];simp only[List.forIn_toArray];exact CX (fun _ _=>rfl) l' ByteArray.empty bs Xi (hq _ _ _ (Left.refl h) ((aG (by rfl)).2 cY))
  ·cases ha
 ·cases ha
theorem bytes_beq {a b:ByteArray}:(a==b)=true↔a=b:=by
 show(a.data==b.data)=true↔a=b
 rw[beq_iff_eq];exact⟨ByteArray.ext,fun h=>by rw[h]⟩
theorem sP {R:Perm}{b:Bool}{n:Nat}{kt:aM}{s:ByteArray}(hk:P.underlying kt=some .string){Q:Unit->ay->Prop}(hq:Q () w):dA P R N (Instr.checkKey b (n+1) kt (.string s)) Q w:=by
 unfold Instr.checkKey;rw[ar];refine aH hk ?_;exact hq
theorem Ag {s:ByteArray}:∀{es js:List MapEntry} (i:Nat),bC (vb ρ) es js->strKeys es=true->
  ∃r,Instr.findNow .string (.string s) js i=some r/\(match oO s es i with
   |some (j,v)=>∃v',r=some (j,v')/\aP ρ v v'
   |none=>r=none)
 | [],[],i,_,_=>⟨none,rfl,rfl⟩
 | [],_::_,_,h,_=>h.elim
 |_::_,[],_,h,_=>h.elim
 |e::es,e'::js,i,h,hs=>by
  obtain⟨⟨hk,hv,_⟩,ht⟩:=h;simp only[strKeys,ag]at hs;obtain⟨YJ,hs2⟩:=hs
  split at YJ
  ·rename_i str hek;rw[hek]at hk;have gf:=(aG (by rfl)).1 hk;unfold Instr.findNow oO;rw[gf,hek];simp only[Instr.sameNow]
   by_cases hb:(s==str)=true
   ·rw[hb];exact⟨_,rfl,_,rfl,hv⟩
   ·have iL:(s==str)=false:=by simpa using hb
    rw[iL];simp only[bO,if_false];exact Ag (i+1) ht hs2
  ·cases YJ
theorem Ah {R:Perm}{kt:aM}{s:ByteArray}(hk:P.underlying kt=some .string){es js:List MapEntry}(he:bC (vb ρ) es js)(hs:strKeys es=true){Q:Option (Nat×ae)->ay->Prop}
  (hq:∀r,(match oO s es 0 with
   |some (j,v)=>∃v',r=some (j,v')/\aP ρ v v'
   |none=>r=none)->Q r w):dA P R N (Instr.findKey kt (.string s) js) Q w:=by
 unfold Instr.findKey;rw[ar];refine aH hk ?_;obtain⟨r,h1,h2⟩:=Ag (s:=s) 0 he hs;rw[h1];exact hq _ h2
theorem lB {α:Type}{R:Perm}:∀{s:Sem α}{a:α},s.aI P=some a->∀{Q:α->ay->Prop},Q a w->dA P R N s Q w
 | .pure a,b,h,Q,hq=>by
  simp only[Sem.aI,ah]at h;subst h;exact hq
 | .program k,b,h,Q,hq=>lB (s:=k P) h hq
 | .load ..,_,h,_,_=>by simp[Sem.aI]at h
 | .store ..,_,h,_,_=>by simp[Sem.aI]at h
 | .new ..,_,h,_,_=>by simp[Sem.aI]at h
 | .shape ..,_,h,_,_=>by simp[Sem.aI]at h
 | .freeze ..,_,h,_,_=>by simp[Sem.aI]at h
 | .frozen ..,_,h,_,_=>by simp[Sem.aI]at h
 | .getObj ..,_,h,_,_=>by simp[Sem.aI]at h
 | .setObj ..,_,h,_,_=>by simp[Sem.aI]at h
 | .choose ..,_,h,_,_=>by simp[Sem.aI]at h
 | .sys ..,_,h,_,_=>by simp[Sem.aI]at h
 | .mark ..,_,h,_,_=>by simp[Sem.aI]at h
 | .halt ..,_,h,_,_=>by simp[Sem.aI]at h
def aiI (ρ:cZ)(r r':Option (Nat×ae)):Prop:=match r with
 |some (j,v)=>∃v',r'=some (j,v')/\aP ρ v v'
 |none=>r'=none
theorem tY {R:Perm}{kt:aM}{k:ae}:∀{es js:List MapEntry}{i:Nat}{r:Option (Nat×ae)},bC (vb ρ) es js->Ai P kt k es i=some r->∀{Q:Option (Nat×ae)->ay->Prop},
  (∀r',aiI ρ r r'->Q r' w)->dA P R N (Instr.findAsking kt k js i) Q w
 | [],[],i,r,_,h,Q,hq=>by cases h;exact hq _ rfl
 | [],_::_,_,_,h,_,_,_=>h.elim
 |_::_,[],_,_,h,_,_,_=>h.elim
 |e::es,e'::js,i,r,h,hf,Q,hq=>by
  obtain⟨⟨hk,hv,_⟩,ht⟩:=h;unfold Ai at hf
  split at hf
  ·rename_i hp;have hke:=mG hp hk;unfold Instr.findAsking;rw[ar,hke]
   split at hf
   ·rename_i he;cases hf;exact lB he (hq _ ⟨_,rfl,hv⟩)
   ·rename_i he;exact lB he (tY ht hf hq)
   ·cases hf
  ·cases hf
theorem mL {kt:aM}{b:Nat}{k:ae}{r:Option (Nat×ae)}(h:yP P kt b k m=some r):(m.blk b).kind=2/\m.bz b=true/\plain k=true/\(∃d,P.underlying kt=some d)/\(∀e,(Instr.checkKey e 10000 kt k).aI P=some ())/\Ai P kt k (m.blk b).es.toList 0=some r:=by
 unfold yP at h
 split at h
 ·rename_i hc;simp only[ag,beq_iff_eq]at hc;obtain⟨⟨⟨⟨⟨h1,h2⟩,h3⟩,h4⟩,h5⟩,h6⟩:=hc;refine⟨h1,h2,h3,iz.1 h4,fun e=>?_,h⟩;obtain⟨u,hu⟩:=iz.1 h5;obtain⟨u',Qc⟩:=iz.1 h6;cases e
  ·exact Qc
  ·exact hu
 ·cases h
theorem Jv {R:Perm}{kt:aM}{cs:Array ae}{d:TypeDesc}(hk:P.underlying kt=some d){es js:List MapEntry}{r:Option (Nat×ae)}(he:bC (vb ρ) es js)(hf:Ai P kt (.agg cs) es 0=some r){Q:Option (Nat×ae)->ay->Prop}
  (hq:∀r',aiI ρ r r'->Q r' w):dA P R N (Instr.findKey kt (.agg cs) js) Q w:=by
 unfold Instr.findKey;rw[ar];refine aH hk ?_;cases js with
 |nil=>
  cases es with
  |nil=>cases hf;exact hq _ rfl
  |cons e es=>exact he.elim
 |cons e' js=>
  have :Instr.findNow d (.agg cs) (e'::js) 0=none:=by
   unfold Instr.findNow;cases d<;>rfl
  rw[this];exact tY he hf hq
theorem yr {t:aM}{z:ae}(hz:gO P t=some z):aP ρ z z:=by
 have :=jG hz;refine bM ?_;cases z with
 |agg cs=>exact this.1
 |tuple cs=>exact absurd this.1 (by simp[ae.cells,cG])
 |_=>simpa[plain,ae.cells]using this.1
theorem DN (h:fI ρ m w){t kt et:aM}{b:Nat}{x' k' v:ae}{cs:Array ae}{ok:Bool}(ht:P.underlying t=some (.map kt et))(hx:aP ρ (.map (some b)) x')(hk:aP ρ (.agg cs) k')(ha:rX P kt et b (.agg cs) ok m=some v)
  {Q:ae->ay->Prop}(hq:∀v',aP ρ v v'->Q v' w):dA P (aA ρ m) N (Instr.lookup t x' k' ok) Q w:=by
 unfold rX at ha;have main:∀{z r},gO P et=some z->yP P kt b (.agg cs) m=some r->(∀u u' bb,(r=none->u=z/\bb=false)->(∀j v,r=some (j,v)->u=v/\bb=true)->aP ρ u u'->Q (if ok then ae.tuple #[u',.bool bb]else u') w)->dA P (aA ρ m) N (Instr.lookup t x' k' ok) Q w:=by
  intro z r hz hr nP;obtain⟨h1,h2,h3,⟨d,h4⟩,h5,h6⟩:=mL hr;obtain rfl:=mG h3 hk;obtain⟨p,hp,rfl⟩:=gP.1 hx;obtain⟨js,g1,g2⟩:=h.maps b p hp h1 h2;unfold Instr.lookup;rw[ar];refine aH ht ?_;simp only[bind_assoc];rw[ar];refine pq (R:=aA ρ m) g1 (by intro _ _ _ h;cases h) rfl ⟨b,p,hp,rfl,.inl h1,h2⟩ ?_;simp only[pure_bind];rw[ar];refine lB (h5 _) ?_;rw[ar];refine Jv h4 g2 h6 fun r' wC=>?_
  cases r with
  |some jv=>
   obtain⟨j,u⟩:=jv;obtain⟨u',rfl,hu⟩:=wC;exact nP u u' true nU (fun j v e=>by cases e;exact⟨rfl,rfl⟩) hu
  |none=>
   have wC:r'=none:=wC;subst wC;simp only[bind_assoc];rw[ar];refine eG hz ?_;exact nP z z false (fun _=>⟨rfl,rfl⟩) (fun j v e=>by cases e) (yr hz)
 split at ha
 ·rename_i z j u hz hr;refine main hz hr fun u1 u' bb _ h2 hu=>hq _ ?_
  obtain⟨rfl,rfl⟩:=h2 _ _ rfl;cases ha;cases ok with
  |false=>exact hu
  |true=>exact dQ.2 ⟨_,rfl,hu,bM rfl,trivial⟩
 ·rename_i z hz hr;refine main hz hr fun u1 u' bb h1 _ hu=>hq _ ?_
  obtain⟨rfl,rfl⟩:=h1 rfl;cases ha;cases ok with
  |false=>exact hu
  |true=>exact dQ.2 ⟨_,rfl,hu,bM rfl,trivial⟩
 ·cases ha
theorem DO (h:fI ρ m w){t:aM}{x x' k k' v:ae}{ok:Bool}(hx:aP ρ x x')(hk:aP ρ k k')(ha:gW P t x k ok m=some v)
  {Q:ae->ay->Prop}(hq:∀v',aP ρ v v'->Q v' w):dA P (aA ρ m) N (Instr.lookup t x' k' ok) Q w:=by
 unfold gW at ha
 split at ha
 ·rename_i kt et r s ht;obtain rfl:=(aG (by rfl)).1 hk
  split at ha
  ·rename_i z hkt hz;have fin:∀{es js:List MapEntry} (_:bC (vb ρ) es js) (_:strKeys es=true),(let v:=match oO s es 0 with |some (_,v)=>(v,true)|none=>(z,false)
     (if ok then ae.tuple #[v.1,.bool v.2]else v.1))=v->∀b,dA P (aA ρ m) N (do
      Instr.checkKey b 10000 kt (.string s)
      let(v,ok')<-match<-Instr.findKey kt (.string s) js with
       |some (_,v)=>pure (v,true)
       |none=>pure (<-zeroValue et,false)
      pure (if ok then ae.tuple #[v,.bool ok']else v)) Q w:=by
    intro es js he hs hv b;rw[ar];refine sP hkt ?_;rw[ar];refine Ah hkt he hs fun r hr=>?_
    have G0:∀u u' b,aP ρ u u'->(if ok then ae.tuple #[u,.bool b]else u)=v->Q (if ok then ae.tuple #[u',.bool b]else u') w:=by
     intro u u' b hu hv;refine hq _ ?_;subst hv;cases ok with
     |false=>exact hu
     |true=>exact dQ.2 ⟨_,rfl,hu,bM rfl,trivial⟩
    split at hr
    ·rename_i j u hf;obtain⟨u',rfl,hu⟩:=hr;simp only[hf]at hv;exact G0 _ _ _ hu hv
    ·rename_i hf;subst hr;simp only[hf]at hv;simp only[];rw[ar];refine eG hz ?_;exact G0 _ _ _ (by
      have :=jG hz;refine bM ?_;unfold gO at hz;cases z with
      |agg cs=>exact this.1
      |tuple cs=>exact absurd this.1 (by simp[ae.cells,cG])
      |_=>simpa[plain,ae.cells]using this.1) hv
   unfold Instr.lookup;rw[ar];refine aH ht ?_;simp only[]
   split at ha
   ·rename_i es Kq
    split at ha
    ·rename_i hsk;simp only[ah]at ha
     split at Kq
     ·simp only[ah]at Kq;subst Kq;obtain rfl:=(aG (by rfl)).1 hx;exact fin (es:=[]) (js:=[]) trivial rfl ha true
     ·rename_i b;simp only[]at Kq
      split at Kq
      ·rename_i hc;simp only[ag,beq_iff_eq]at hc;simp only[ah]at Kq;subst Kq;obtain⟨p,hp,rfl⟩:=gP.1 hx;obtain⟨js,g1,g2⟩:=h.maps b p hp hc.1 hc.2;simp only[bind_assoc];rw[ar];refine pq (R:=aA ρ m) g1 (by intro _ _ _ h;cases h) rfl ⟨b,p,hp,rfl,.inl hc.1,hc.2⟩ ?_;simp only[pure_bind];exact fin g2 hsk ha _
      ·cases Kq
    ·cases ha
   ·cases ha
  ·cases ha
 ·rename_i kt et b cs ht;exact DN h ht hx hk ha hq
 ·cases ha
theorem Af {s:ByteArray}:∀{es:List MapEntry}{i j:Nat}{v:ae},oO s es i=some (j,v)->i<=j/\∃e,es[j-i]?=some e/\e.key= .string s
 | [],_,_,_,h=>by cases h
 |e::es,i,j,v,h=>by
  unfold oO at h
  split at h
  ·rename_i k hk
   split at h
   ·rename_i hb;simp only[ah,au]at h;obtain⟨rfl,rfl⟩:=h;refine⟨ai _,e,cY,?_⟩;rw[hk,bytes_beq.1 hb]
   ·obtain⟨h1,e',h2,h3⟩:=Af h;refine⟨aj,e',?_,h3⟩;rw[show j-i=(j-(i+1))+1 by omega];simpa using h2
  ·cases h
theorem zO {l r:List MapEntry}(h:bC (vb ρ) l r)(i:Nat){f g:MapEntry->MapEntry}(hfg:∀a b,vb ρ a b->vb ρ (f a) (g b)):bC (vb ρ) (l.modify i f) (r.modify i g):=by
 refine bC.Gn (by simp[h.length]) fun j a b ha hb=>?_
 rw[List.getElem?_modify]at ha hb;cases hl:l[j]? with
 |none=>simp[hl]at ha
 |some x=>
  obtain⟨y,hy,Ko⟩:=h.get hl;rw[hl]at ha;rw[hy]at hb;obtain rfl:=Option.some.inj ha;obtain rfl:=Option.some.inj hb
  show vb ρ (if i=j then f x else x) (if i=j then g y else y)
  by_cases sN:i=j
  ·rw[bK sN,bK sN];exact hfg _ _ Ko
  ·rw[bZ sN,bZ sN];exact Ko
theorem Gv (h:fI ρ m w){t kt et:aM}{b:Nat}{x' k' v v':ae}{cs:Array ae}{m':Mem}(ht:P.underlying t=some (.map kt et))(hx:aP ρ (.map (some b)) x')(hk:aP ρ (.agg cs) k')(hv:aP ρ v v')(ha:tM P kt b (.agg cs) v m=some m')
  {Q:Unit->ay->Prop}(hq:∀w',Left ρ m w ρ m' w'->Q () w'):dA P (aA ρ m) N (Instr.mapUpdate t x' k' v') Q w:=by
 unfold tM at ha;simp only[]at ha;obtain⟨r,hr⟩:∃r,yP P kt b (.agg cs) m=some r:=by
  cases hm:yP P kt b (.agg cs) m with
  |none=>rw[hm]at ha;cases ha
  |some r=>exact⟨r,rfl⟩
 obtain⟨G2,Mh,h3,⟨d,h4⟩,h5,h6⟩:=mL hr;rw[hr]at ha;obtain rfl:=mG h3 hk;obtain⟨p,hp,rfl⟩:=gP.1 hx;obtain⟨js,g1,g2⟩:=h.maps b p hp G2 Mh;have Ab:(aA ρ m).ob p.c:=⟨b,p,hp,rfl,.inl G2,Mh⟩;unfold Instr.mapUpdate;rw[ar];refine aH ht ?_;simp only[];rw[ar];refine pq g1 (by intro _ _ _ h;cases h) rfl Ab ?_;simp only[];rw[ar];refine lB (h5 _) ?_;rw[ar];refine Jv h4 g2 h6 fun r' wC=>?_
 cases r with
 |some iu=>
  obtain⟨i,u⟩:=iu;obtain⟨u',rfl,hu⟩:=wC;simp only[]at ha
  split at ha
  ·rename_i e he
   split at ha
   ·rename_i hb;rw[ag]at hb;cases ha;obtain⟨e',adh,hee⟩:=g2.get he;have adb:e'.key=e.key:=mG hb.1 hee.1;have hold:((js[i]?).map (·.key)).getD (.agg cs)=e.key:=by
     rw[show js[i]?=some e' by simpa using adh];exact adb
    simp only[];rw[ar,hold];have Vq:∀{Q:ae->ay->Prop},Q (.agg cs) w->dA P (aA ρ m) N (Instr.keyThatStays e.key (.agg cs)) Q w:=by
     intro Q hQ;unfold Instr.keyThatStays;rw[bK hb.2];exact hQ
    refine Vq ?_;refine pj g1 (by intro _ _ _ h;cases h) (by intro _ _ _ h;cases h) rfl Ab ?_;refine hq _ (h.setObj hp (.inl G2) (by rfl) g1 (by intro _ _ _ h;cases h) (by intro _ _ _ h;cases h) (fun _=>⟨_,rfl,?_⟩) (fun Mc=>by have :(m.blk b).kind=3:=Mc;omega));simp only[Array.toList_modify];exact zO g2 i fun a b Ox=>⟨bM h3,hv,Ox.2.2⟩
   ·cases ha
  ·cases ha
 |none=>
  have wC:r'=none:=wC;subst wC;cases ha;simp only[];refine pj g1 (by intro _ _ _ h;cases h) (by intro _ _ _ h;cases h) rfl Ab ?_;refine hq _ (h.setObj hp (.inl G2) (by rfl) g1 (by intro _ _ _ h;cases h) (by intro _ _ _ h;cases h) (fun _=>⟨_,rfl,?_⟩) (fun Mc=>by have :(m.blk b).kind=3:=Mc;omega));simp only[Array.toList_push];exact g2.append ⟨⟨bM h3,hv,rfl⟩,trivial⟩
theorem yN (h:fI ρ m w){t:aM}{x x' k k' v v':ae}{m':Mem}(hx:aP ρ x x')(hk:aP ρ k k')(hv:aP ρ v v')(ha:iV P t x k v m=some m')
  {Q:Unit->ay->Prop}(hq:∀w',Left ρ m w ρ m' w'->Q () w'):dA P (aA ρ m) N (Instr.mapUpdate t x' k' v') Q w:=by
 unfold iV at ha
 split at ha
 ·rename_i kt et b s ht;obtain rfl:=(aG (by rfl)).1 hk
  split at ha
  ·rename_i hkt;simp only[]at ha
   split at ha
   ·rename_i hc;simp only[ag,beq_iff_eq]at hc;obtain⟨⟨G2,Mh⟩,hsk⟩:=hc;obtain⟨p,hp,rfl⟩:=gP.1 hx;obtain⟨js,g1,g2⟩:=h.maps b p hp G2 Mh;have Ab:(aA ρ m).ob p.c:=⟨b,p,hp,rfl,.inl G2,Mh⟩;unfold Instr.mapUpdate;rw[ar];refine aH ht ?_;simp only[];rw[ar];refine pq g1 (by intro _ _ _ h;cases h) rfl Ab ?_;simp only[];rw[ar];refine sP hkt ?_;rw[ar];refine Ah hkt g2 hsk fun r hr=>?_
    split at hr
    ·rename_i i u hf;obtain⟨u',rfl,hu⟩:=hr;rw[hf]at ha;simp only[ah]at ha;subst ha;obtain⟨_,e,Qf,he2⟩:=Af hf;rw[Nat.sub_zero]at Qf;obtain⟨e',adh,hee⟩:=g2.get Qf;have adb:e'.key= .string s:=by have :=hee.1;rw[he2]at this;exact(aG (by rfl)).1 this
     have hold:((js[i]?).map (·.key)).getD (.string s)= .string s:=by
      rw[show js[i]?=some e' by simpa using adh];exact adb
     simp only[];rw[ar,hold];have Vq:∀{Q:ae->ay->Prop},Q (.string s) w->dA P (aA ρ m) N (Instr.keyThatStays (.string s) (.string s)) Q w:=by
      intro Q hQ;unfold Instr.keyThatStays;rw[bK (by show(s==s)=true;exact bytes_beq.2 rfl)];exact hQ
     refine Vq ?_;refine pj g1 (by intro _ _ _ h;cases h) (by intro _ _ _ h;cases h) rfl Ab ?_;refine hq _ (h.setObj hp (.inl G2) (by rfl) g1 (by intro _ _ _ h;cases h) (by intro _ _ _ h;cases h) (fun _=>⟨_,rfl,?_⟩) (fun Mc=>by have :(m.blk b).kind=3:=Mc;omega));simp only[Array.toList_modify];exact zO g2 i fun a b Ox=>⟨bM rfl,hv,Ox.2.2⟩
    ·rename_i hf;subst hr;rw[hf]at ha;simp only[ah]at ha;subst ha;simp only[];refine pj g1 (by intro _ _ _ h;cases h) (by intro _ _ _ h;cases h) rfl Ab ?_;refine hq _ (h.setObj hp (.inl G2) (by rfl) g1 (by intro _ _ _ h;cases h) (by intro _ _ _ h;cases h) (fun _=>⟨_,rfl,?_⟩) (fun Mc=>by have :(m.blk b).kind=3:=Mc;omega));simp only[Array.toList_push];exact g2.append ⟨⟨bM rfl,hv,rfl⟩,trivial⟩
   ·cases ha
  ·cases ha
 ·rename_i kt et b cs ht;exact Gv h ht hx hk hv ha hq
 ·cases ha
theorem wO {x x' v:ae}{t a:aM}{ok:Bool}(hx:aP ρ x x')(ha:qh P x t a ok=some v){R:Perm}
  {Q:ae->ay->Prop}(hq:∀v',aP ρ v v'->Q v' w):dA P R N (Instr.typeAssert x' t a ok) Q w:=by
 unfold qh at ha
 split at ha
 ·cases ha
 ·rename_i d hni hd;obtain rfl:=(aG (by rfl)).1 hx;obtain⟨z,hz,rfl⟩:=aB.1 ha;unfold Instr.typeAssert;rw[ar];refine aH hd ?_;cases d with
  |interface ms=>exact(hni _ rfl).elim
  |_=>
   simp only[if_true];rw[ar];refine eG hz ?_;exact hq _ (dQ.2 ⟨_,rfl,yr hz,bM rfl,trivial⟩)
 ·rename_i d dt u hni hd;obtain⟨u',rfl,hu⟩:=fQ.1 hx;unfold Instr.typeAssert;rw[ar];refine aH hd ?_;cases d with
  |interface ms=>exact(hni _ rfl).elim
  |_=>
   simp only[if_true]
   split at ha
   ·rename_i hdt;rw[bK hdt];simp only[ah]at ha;subst ha;exact hq _ (dQ.2 ⟨_,rfl,hu,bM rfl,trivial⟩)
   ·rename_i hdt;rw[bZ hdt];obtain⟨z,hz,rfl⟩:=aB.1 ha;rw[ar];refine eG hz ?_;exact hq _ (dQ.2 ⟨_,rfl,yr hz,bM rfl,trivial⟩)
 ·cases ha
theorem fI.NN(h:fI ρ m w){k:dU}{o:Obj}(hk:k.kind=2\/k.kind=3)(VC:k.kind=2->∃js,o= .map js k.clock/\bC (vb ρ) k.es.toList js.toList)(Ji:k.kind=3->o= .stringIter k.str k.pos):
  Left ρ m w (ρ.put m.next ⟨w.heap.size,0,0,0⟩) (m.alloc k) {w with heap:=w.heap.push o}:=by
 have hn:=rj h;have kq:(m.alloc k).blk m.next={k with a9:=m.tick}:=by rw[Mem.cf,bK rfl]
 refine⟨cZ.tN hn _,(h.bump k).lay hn cY (o:=o) rfl rfl (fun h1=>?_) (fun h2=>?_) (fun h3=>?_),
  (mC (kX h _) rfl rfl rfl rfl _).trans (vt hn (ai _)),AR⟩
 ·rw[kq]at h1;simp at h1;omega
 ·rw[kq]at h2⊢;exact VC h2
 ·rw[kq]at h3⊢;exact⟨rfl,Ji h3⟩
theorem Gc (h:fI ρ m w){t:aM}{x x' v:ae}{m':Mem}(hx:aP ρ x x')(ha:yG P t x m=some (v,m')){R:Perm}
  {Q:ae->ay->Prop}(hq:∀v' w' bq,Left ρ m w bq m' w'->aP bq v v'->Q v' w'):dA P R N (Instr.range t x') Q w:=by
 unfold yG at ha
 split at ha
 ·rename_i s ht;obtain rfl:=(aG (by rfl)).1 hx;simp only[ah,au]at ha;obtain⟨rfl,rfl⟩:=ha;unfold Instr.range;rw[ar];refine aH ht ?_;simp only[pure_bind];rw[ar];refine Lp ?_;exact hq _ _ _ (h.NN (.inr rfl) nU fun _=>rfl) (cH.2 ⟨_,cZ.kG ..,rfl,rfl⟩)
 ·cases ha
theorem IK (h:fI ρ m w){it it' v:ae}{isS:Bool}{ty:aM}{m':Mem}(hx:aP ρ it it')(ha:EN it isS m=some (v,m'))
  {Q:ae->ay->Prop}(hq:∀v' w' bq,Left ρ m w bq m' w'->aP bq v v'->Q v' w'):dA P (aA ρ m) N (Instr.next it' isS ty) Q w:=by
 unfold EN at ha
 split at ha
 ·rename_i b;obtain⟨p,hp,_,rfl⟩:=cH.1 hx;simp only[]at ha
  split at ha
  ·rename_i hc;simp only[ag,beq_iff_eq]at hc;obtain⟨g0,g1⟩:=h.lC b p hp hc.1 hc.2;have Ab:(aA ρ m).ob p.c:=⟨b,p,hp,rfl,.inr hc.1,hc.2⟩;unfold Instr.next;simp only[g0,Nat.zero_add];rw[ar];refine pq g1 (by intro _ _ _ h;cases h) rfl Ab ?_;simp only[]
   split at ha
   ·rename_i cA;rw[bK cA];simp only[ah,au]at ha;obtain⟨rfl,rfl⟩:=ha;rw[ar];refine pj g1 (by intro _ _ _ h;cases h) (by intro _ _ _ h;cases h) rfl Ab ?_;exact hq _ _ _ (h.setObj hp (.inr hc.1) (by rfl) g1 (by intro _ _ _ h;cases h) (by intro _ _ _ h;cases h) (fun h2=>by have :(m.blk b).kind=2:=h2;omega) fun _=>⟨g0,rfl⟩) (bM rfl)
   ·rename_i cA;rw[bZ cA];simp only[ah,au]at ha;obtain⟨rfl,rfl⟩:=ha;exact hq _ _ _ (Left.refl h) (bM rfl)
  ·cases ha
 ·cases ha
end
end Go.AM
namespace Go.AM
open Go
section
variable {P:aD}{ρ:cZ}{m:Mem}{w:ay}{N:Nat}
def aiE (ρ:cZ)(v:ae)(nx:Next):Prop:=∃v',aP ρ v v'/\(nx= .value v'\/(nx= .skip/\v=undef/\v'=undef))
def gF (P:aD)(ρ:cZ)(m:Mem)(N:Nat)(s:Sem Next)(v:ae)(m':Mem)(w:ay):Prop:=
 dA P (aA ρ m) N s (fun nx w'=>∃bq,Left ρ m w bq m' w'/\aiE bq v nx) w
variable {v:ae}{m':Mem}
theorem gF.val{s:Sem ae}(h:∀{Q:ae->ay->Prop},(∀v' w' bq,Left ρ m w bq m' w'->aP bq v v'->Q v' w')->dA P (aA ρ m) N s Q w):gF P ρ m N (do pure (.value (<-s))) v m' w:=by
 unfold gF;rw[ar];exact h fun v' w' bq hL hv=>⟨bq,hL,v',hv,.inl rfl⟩
theorem gF.iQ(hs:fI ρ m w){s:Sem ae}(h:∀{Q:ae->ay->Prop},(∀v',aP ρ v v'->Q v' w)->dA P (aA ρ m) N s Q w):gF P ρ m N (do pure (.value (<-s))) v m w:=
 gF.val fun hq=>h fun v' hv=>hq v' w ρ (Left.refl hs) hv
theorem gF.unit{s:Sem Unit}(h:∀{Q:Unit->ay->Prop},(∀w',Left ρ m w ρ m' w'->Q () w')->dA P (aA ρ m) N s Q w):gF P ρ m N (do s;pure .skip) undef m' w:=by
 unfold gF;rw[ar];exact h fun w' hL=>⟨ρ,hL,undef,mF,.inr ⟨rfl,rfl,rfl⟩⟩
theorem gF.now(hs:fI ρ m w){v':ae}(hv:aP ρ v v'):gF P ρ m N (pure (.value v')) v m w:=⟨ρ,Left.refl hs,v',hv,.inl rfl⟩
theorem zW {r r':ae}{name:String}{f:Nat}{recv:ae}(hr:aP ρ r r')(hm:dN P r name=some (f,recv)):
  ∃t u u' i mt e,r= .iface t u/\r'= .iface t u'/\recv=u/\aP ρ u u'/\P.info? t=some i/\P.underlying t=some (.pointer e)/\i.methods.find? (·.name==name)=some mt/\mt.path.toList=[]/\mt.func=some (f,true):=by
 unfold dN at hm
 split at hm
 ·rename_i t u;obtain⟨u',rfl,hu⟩:=fQ.1 hr
  split at hm
  ·rename_i i e hi he
   split at hm
   ·rename_i mt hmt
    split at hm
    ·rename_i f' hp hf;simp only[ah,au]at hm;obtain⟨rfl,rfl⟩:=hm;exact⟨t,u,u',i,mt,e,rfl,rfl,rfl,hu,hi,he,hmt,hp,hf⟩
    ·cases hm
   ·cases hm
  ·cases hm
 ·cases hm
theorem AD {t:aM}{u':ae}{i:TypeInfo}{mt:Method}{name:String}{f n:Nat}(hi:P.info? t=some i)(hmt:i.methods.find? (·.name==name)=some mt)(hp:mt.path.toList=[])(hf:mt.func=some (f,true))
  {R:Perm}{Q:Option Bool->ay->Prop}(hq:Q (some false) w):dA P R N (nilAhead (n+1) t u' name) Q w:=by
 unfold nilAhead;rw[ar];refine gU hi ?_;rw[hmt];simp only[hp,followBlind,pure_bind];rw[hf];exact hq
theorem iZ {op:BinOp}{t:aM}{x y:cd}{a b:ae}{R:Perm}{Q:Unit->ay->Prop}(h1:∀xs ys,a= .agg xs->b= .agg ys->False)(h2:a= .nilIface->b= .nilIface->(isConst x||isConst y)=true)(hq:Q () w):
  dA P R N (eqGuard op t x y a b) Q w:=by
 unfold eqGuard
 split
 ·rw[bZ cY]
  split
  ·have :=h2 rfl rfl;unfold isConst at this;rw[bK (by cases x<;>cases y<;>simp_all)];exact hq
  ·exact(h1 _ _ rfl rfl).elim
  ·exact hq
 ·rw[bZ cY]
  split
  ·have :=h2 rfl rfl;unfold isConst at this;rw[bK (by cases x<;>cases y<;>simp_all)];exact hq
  ·exact(h1 _ _ rfl rfl).elim
  ·exact hq
 ·exact hq
theorem Ak {t:aM}{xc yc:cd}{x x' y y':ae}{b:Bool}(hx:aP ρ x x')(hy:aP ρ y y')(he:rC P t (isConst xc) (isConst yc) x y=some b){R:Perm}:
  (∀{Q:Bool->ay->Prop},Q b w->dA P R N (Op.equal t x' y') Q w)/\(∀op {Q:Unit->ay->Prop},Q () w->dA P R N (eqGuard op t xc yc x' y') Q w)/\
  (∀op,binOp op t x' y'=match op with | .eql=>(do pure (.bool (<-Op.equal t x' y')))| .neq=>(do pure (.bool (!(<-Op.equal t x' y'))))|op=>binOp op t x' y'):=by
 unfold rC at he
 split at he
 ·rename_i e q hu;simp only[ah]at he;subst he;obtain rfl:=(aG (by rfl)).1 hx;have Kn:∃q',y'= .pointer q'/\q'.isNone=q.isNone:=by
   cases q with
   |none=>exact⟨none,(aG (by rfl)).1 hy,rfl⟩
   |some a=>obtain⟨p,_,_,rfl⟩:=cH.1 hy;exact⟨_,rfl,rfl⟩
  obtain⟨q',rfl,A0⟩:=Kn;refine⟨fun hQ=>?_,fun op Q hQ=>iZ (fun _ _ h _=>by cases h) nU hQ,fun op=>by cases op<;>rfl⟩;unfold Op.equal Op.maxDepth Op.equalIn;rw[ar];refine aH hu ?_
  show _
  rw[<-A0]at hQ;exact hQ
 ·rename_i e a hu;simp only[ah]at he;subst he;obtain⟨p,_,_,rfl⟩:=cH.1 hx;obtain rfl:=(aG (by rfl)).1 hy;refine⟨fun hQ=>?_,fun op Q hQ=>iZ (fun _ _ h _=>by cases h) nU hQ,fun op=>by cases op<;>rfl⟩;unfold Op.equal Op.maxDepth Op.equalIn;rw[ar];refine aH hu ?_;exact hQ
 ·rename_i e l c q l' c' hu;simp only[ah]at he;subst he;obtain rfl:=(aG (by rfl)).1 hx;have Kn:∃q' c'',y'= .slice q' l' c''/\q'.isNone=q.isNone:=by
   cases q with
   |none=>exact⟨none,_,(aG (by rfl)).1 hy,rfl⟩
   |some a=>obtain⟨p,_,_,_,rfl,_⟩:=bU.1 hy;exact⟨_,_,rfl,rfl⟩
  obtain⟨q',c'',rfl,A0⟩:=Kn;refine⟨fun hQ=>?_,fun op Q hQ=>iZ (fun _ _ h _=>by cases h) nU hQ,fun op=>by cases op<;>rfl⟩;unfold Op.equal Op.maxDepth Op.equalIn;rw[ar];refine aH hu ?_;rw[<-A0]at hQ;exact hQ
 ·rename_i e a l c l' c' hu;simp only[ah]at he;subst he;obtain⟨p,_,_,_,rfl,_⟩:=bU.1 hx;obtain rfl:=(aG (by rfl)).1 hy;refine⟨fun hQ=>?_,fun op Q hQ=>iZ (fun _ _ h _=>by cases h) nU hQ,fun op=>by cases op<;>rfl⟩;unfold Op.equal Op.maxDepth Op.equalIn;rw[ar];refine aH hu ?_;exact hQ
 ·rename_i ms hu
  split at he
  ·rename_i hc;simp only[ah]at he;subst he;obtain rfl:=(aG (by rfl)).1 hx;obtain rfl:=(aG (by rfl)).1 hy;refine⟨fun hQ=>?_,fun op Q hQ=>iZ (fun _ _ h _=>by cases h) (fun _ _=>hc) hQ,fun op=>by cases op<;>rfl⟩;unfold Op.equal Op.maxDepth Op.equalIn;rw[ar];refine aH hu ?_;exact hQ
  ·cases he
 ·rename_i ms t2 u hu;simp only[ah]at he;subst he;obtain rfl:=(aG (by rfl)).1 hx;obtain⟨u',rfl,_⟩:=fQ.1 hy;refine⟨fun hQ=>?_,fun op Q hQ=>iZ (fun _ _ h _=>by cases h) (fun _ h=>by cases h) hQ,fun op=>by cases op<;>rfl⟩;unfold Op.equal Op.maxDepth Op.equalIn;rw[ar];refine aH hu ?_;exact hQ
 ·rename_i ms t2 u hu;simp only[ah]at he;subst he;obtain⟨u',rfl,_⟩:=fQ.1 hx;obtain rfl:=(aG (by rfl)).1 hy;refine⟨fun hQ=>?_,fun op Q hQ=>iZ (fun _ _ h _=>by cases h) nU hQ,fun op=>by cases op<;>rfl⟩;unfold Op.equal Op.maxDepth Op.equalIn;rw[ar];refine aH hu ?_;exact hQ
 ·cases he
theorem DH {ev oV:cd->ae}{o:im}(dP:∀x∈o.op.operands,aP ρ (ev x) (oV x))(Cc:∀cs b,o.op≠ .select cs b)(hs:fI ρ m w)(h:cX P ev o=some v):gF P ρ m N (execOp oV o) v m w:=by
 unfold cX at h
 split at h
 ·rename_i hp;rw[Array.all_eq_true']at hp;have he:execOp oV o=execOp ev o:=execOp_congr o Cc fun x hx=>mG (hp x hx) (dP x hx)
  rw[he]
  split at h
  ·rename_i u hu
   split at h
   ·rename_i dd;simp only[ah]at h;subst h;exact lB hu ⟨ρ,Left.refl hs,_,bM dd,.inl rfl⟩
   ·cases h
  ·cases h
 ·cases h
theorem yL {ev oV:cd->ae}{ps:Array (Nat×cd)}(dP:∀x∈(ps.toList.map (·.2)).toArray,aP ρ (ev x) (oV x)):
  bC (fun(a b:Nat×ae)=>b.1=a.1/\aP ρ a.2 b.2) (ps.map fun(i,x)=>(i,ev x)).toList (ps.map fun(i,x)=>(i,oV x)).toList:=by
 simp only[Array.toList_map];refine bC.px fun x hx=>⟨rfl,dP _ ?_⟩
 simp only[List.mem_toArray,List.mem_map];exact⟨x,hx,rfl⟩
theorem NB {ev oV:cd->ae}{x:Option cd}(dP:∀y∈x,aP ρ (ev y) (oV y)):Hy ρ (x.map ev) (x.map oV):=by
 cases x with
 |none=>trivial
 |some y=>exact dP y rfl
set_option maxHeartbeats 2000000 in
theorem EJ{ev oV:cd->ae}{o:im}(hs:fI ρ m w)(hN:N<=w.heap.size)(dP:∀x∈o.op.operands,aP ρ (ev x) (oV x))(h:dp P ev o m=some (v,m')):gF P ρ m N (execOp oV o) v m' w:=by
 have dd:(∀cs b,o.op≠ .select cs b)->(cX P ev o).map (fun v=>(v,m))=some (v,m')->gF P ρ m N (execOp oV o) v m' w:=by
  intro Cc hm;obtain⟨u,hu,he⟩:=aB.1 hm;simp only[au]at he;obtain⟨rfl,rfl⟩:=he;exact DH dP Cc hs hu
 unfold dp at h
 split at h
 ·
  rename_i x ho;simp only[ho,Op.operands]at dP;simp only[ah,au]at h;obtain⟨rfl,rfl⟩:=h;simp only[execOp,ho];exact gF.now hs (dP x cY)
 ·rename_i x ho;simp only[ho,Op.operands]at dP;simp only[ah,au]at h;obtain⟨rfl,rfl⟩:=h;simp only[execOp,ho];exact gF.now hs (dP x cY)
 ·
  rename_i c a b ho;simp only[ho,Op.operands]at dP
  split at h
  ·rename_i t hc;simp only[ah,au]at h;obtain⟨rfl,rfl⟩:=h;have h1:=dP c cY;rw[hc]at h1;have h1:=(aG (by rfl)).1 h1;simp only[execOp,ho,h1,asBool,pure_bind];refine gF.now hs ?_;cases t
   ·exact dP b cY
   ·exact dP a cY
  ·cases h
 ·
  rename_i e ho;obtain⟨z,hz,he⟩:=aB.1 h;simp only[cz,au]at he;obtain⟨rfl,rfl⟩:=he;simp only[execOp,ho];refine gF.val fun hq=>?_
  unfold Instr.alloc;rw[ar];refine eG hz ?_
  show dA P (aA ρ m) N (do let a<-newVar e z;pure (ae.pointer (some a))) _ w
  rw[ar];exact BQ hs (sz:=0) (yq hz) fun w' bq hL hv=>hq _ _ _ hL hv
 ·
  rename_i e x ho;simp only[ho,Op.operands]at dP;simp only[cz,ah,au]at h;obtain⟨rfl,rfl⟩:=h;simp only[execOp,ho];refine gF.val fun hq=>?_
  unfold Instr.box
  show dA P (aA ρ m) N (do let a<-newVar e (oV x);pure (ae.pointer (some a))) _ w
  rw[ar];exact BQ hs (sz:=0) (dP x cY).cells fun w' bq hL hv=>hq _ _ _ hL hv
 ·
  rename_i t ps ho;simp only[ho,Op.operands]at dP;obtain⟨u,hu,he⟩:=aB.1 h;simp only[au]at he;obtain⟨rfl,rfl⟩:=he;simp only[execOp,ho];exact gF.iQ hs fun hq=>Hs (yL dP) hu hq
 ·
  rename_i t n ps ho;simp only[ho,Op.operands]at dP;simp only[execOp,ho];exact gF.val fun hq=>yd hs (yL dP) h hq
 ·
  rename_i t a ho;simp only[ho,Op.operands]at dP;obtain⟨u,hu,he⟩:=aB.1 h;simp only[au]at he;obtain⟨rfl,rfl⟩:=he;simp only[execOp,ho];exact gF.iQ hs fun hq=>zZ hs (dP a cY) hu hq
 ·
  rename_i t a x ho;simp only[ho,Op.operands]at dP;obtain⟨u,hu,he⟩:=aB.1 h;simp only[au]at he;obtain⟨rfl,rfl⟩:=he;simp only[execOp,ho];exact gF.unit fun hq=>FX hs (dP a cY) (dP x cY) hu hq
 ·
  rename_i x ho;simp only[ho,Op.operands]at dP;have h1:=dP x cY
  split at h
  ·rename_i a hx;simp only[ah,au]at h;obtain⟨rfl,rfl⟩:=h;rw[hx]at h1;have h2:=cH.1 h1;obtain⟨p,_,_,h3⟩:=h2;simp only[execOp,ho,h3];rw[h3]at h1;exact gF.now hs h1
  ·rename_i name first cap hx
   split at h
   ·rename_i r hr
    split at h
    ·rename_i hm;simp only[ah,au]at h;obtain⟨rfl,rfl⟩:=h;rw[hx]at h1;obtain⟨f',c',h3,hf,nS⟩:=fO.1 h1;obtain⟨⟨f,recv⟩,hm⟩:=iz.1 hm;obtain⟨r',wC,hrr⟩:=hf.get (i:=0) (by simpa using hr);obtain⟨t,u,u',i,mt,e,rfl,rfl,_,hu,hi,_,hmt,hp,GY⟩:=zW hrr hm;simp only[execOp,ho,h3];rw[h3]at h1;have akx:(f'[0]?:Option ae)=some (.iface t u'):=by simpa using wC
     rw[akx];unfold gF;simp only[];rw[ar]
     show dA P (aA ρ m) N (nilAhead (P.types.size+Made.depth) t u' name>>=_) _ w
     rw[ar];have hd:∃k,P.types.size+Made.depth=k+1:=by
      have :Made.depth≠0:=gC;exact⟨P.types.size+Made.depth-1,aj⟩
     obtain⟨k,hk⟩:=hd;rw[hk];refine AD hi hmt hp GY ?_;exact⟨ρ,Left.refl hs,_,h1,.inl rfl⟩
    ·cases h
   ·cases h
  ·cases h
 ·
  rename_i op t x y q ho;have Cc:∀cs b,o.op≠ .select cs b:=fun cs b hc=>by rw[ho]at hc;cases hc
  have hx:aP ρ (ev x) (oV x):=dP x (by rw[ho];simp[Op.operands]);have hy:aP ρ (ev y) (oV y):=dP y (by rw[ho];simp[Op.operands])
  split at h
  ·split at h
   ·rename_i b hb;simp only[ah,au]at h;obtain⟨rfl,rfl⟩:=h;obtain⟨g1,g2,g3⟩:=Ak (N:=N) (w:=w) (R:=aA ρ m) hx hy hb;simp only[execOp,ho];refine gF.iQ hs fun hq=>?_
    rw[ar];refine g2 _ ?_;rw[g3];simp only[];rw[ar];exact g1 (hq _ (bM rfl))
   ·exact dd Cc h
  ·split at h
   ·rename_i b hb;simp only[ah,au]at h;obtain⟨rfl,rfl⟩:=h;obtain⟨g1,g2,g3⟩:=Ak (N:=N) (w:=w) (R:=aA ρ m) hx hy hb;simp only[execOp,ho];refine gF.iQ hs fun hq=>?_
    rw[ar];refine g2 _ ?_;rw[g3];simp only[];rw[ar];exact g1 (hq _ (bM rfl))
   ·exact dd Cc h
  ·exact dd Cc h
 ·
  rename_i ho;exact dd (fun cs b hc=>by rw[ho]at hc;cases hc) h
 ·
  rename_i s d x ho
  split at h
  ·rename_i r hr;simp only[ah]at h;subst h;simp only[execOp,ho];exact gF.val fun hq=>CJ hs hN (dP x (by rw[ho];simp[Op.operands])) hr hq
  ·exact dd (fun cs b hc=>by rw[ho]at hc;cases hc) h
 ·
  rename_i t x ho;simp only[ho,Op.operands]at dP
  split at h
  ·cases h
  ·rename_i d hni hd;simp only[ah,au]at h;obtain⟨rfl,rfl⟩:=h;simp only[execOp,ho];refine gF.iQ hs fun hq=>?_
   unfold Instr.makeInterface;rw[ar];refine aH hd ?_;have :=hq _ (fQ.2 ⟨_,rfl,dP x cY⟩);cases d with
   |interface ms=>exact(hni _ rfl).elim
   |_=>exact this
  ·cases h
 ·
  rename_i fn f c ho;simp only[ho,Op.operands]at dP;simp only[ah,au]at h;obtain⟨rfl,rfl⟩:=h;simp only[execOp,ho];refine gF.iQ hs fun hq=>?_
  refine hq _ (fO.2 ⟨_,_,rfl,?_,?_⟩)
  ·simp only[Array.toList_map];exact bC.px fun x hx=>dP x (by simp;exact .inl (by simpa using hx))
  ·simp only[Array.toList_map];exact bC.px fun x hx=>dP x (by simp;exact .inr (by simpa using hx))
 ·
  rename_i t ho;simp only[ah,au]at h;obtain⟨rfl,rfl⟩:=h;simp only[execOp,ho];refine gF.val fun hq=>?_
  refine hq _ _ _ (hs.NN (o:= .map #[] 0) (.inl rfl) (fun _=>⟨#[],rfl,trivial⟩) fun h=>by cases h) (gP.2 ⟨_,cZ.kG ..,rfl⟩)
 ·
  rename_i t l c ho;simp only[ho,Op.operands]at dP;simp only[execOp,ho];exact gF.val fun hq=>yQ hs (dP l cY) (dP c cY) h hq
 ·
  rename_i t x lo hi ho
  split at h
  ·rename_i u hu;simp only[ah,au]at h;obtain⟨rfl,rfl⟩:=h;simp only[ho,Op.operands]at dP;simp only[execOp,ho];exact gF.iQ hs fun hq=>F5 hs (dP x cY) (NB fun y hy=>dP y (by simp_all)) (NB fun y hy=>dP y (by simp_all)) hu hq
  ·exact dd (fun cs b hc=>by rw[ho]at hc;cases hc) h
 ·
  rename_i s x f ho;simp only[ho,Op.operands]at dP;obtain⟨u,hu,he⟩:=aB.1 h;simp only[au]at he;obtain⟨rfl,rfl⟩:=he;simp only[execOp,ho];exact gF.iQ hs fun hq=>zi (dP x cY) hu hq
 ·
  rename_i s x f ho;simp only[ho,Op.operands]at dP;obtain⟨u,hu,he⟩:=aB.1 h;simp only[au]at he;obtain⟨rfl,rfl⟩:=he;simp only[execOp,ho];exact gF.iQ hs fun hq=>G8 (dP x cY) hu hq
 ·
  rename_i t x i ho;simp only[ho,Op.operands]at dP;obtain⟨u,hu,he⟩:=aB.1 h;simp only[au]at he;obtain⟨rfl,rfl⟩:=he;simp only[execOp,ho];exact gF.iQ hs fun hq=>yY (dP x cY) (dP i cY) hu hq
 ·
  rename_i t x i ho
  split at h
  ·rename_i u hu;simp only[ah,au]at h;obtain⟨rfl,rfl⟩:=h;simp only[ho,Op.operands]at dP;simp only[execOp,ho];exact gF.iQ hs fun hq=>GO (dP x cY) (dP i cY) hu hq
  ·exact dd (fun cs b hc=>by rw[ho]at hc;cases hc) h
 ·
  rename_i t x i ok ho;simp only[ho,Op.operands]at dP;obtain⟨u,hu,he⟩:=aB.1 h;simp only[au]at he;obtain⟨rfl,rfl⟩:=he;simp only[execOp,ho];exact gF.iQ hs fun hq=>DO hs (dP x cY) (dP i cY) hu hq
 ·
  rename_i t x k u ho;simp only[ho,Op.operands]at dP;obtain⟨m2,hm,he⟩:=aB.1 h;simp only[au]at he;obtain⟨rfl,rfl⟩:=he;simp only[execOp,ho];exact gF.unit fun hq=>yN hs (dP x cY) (dP k cY) (dP u cY) hm hq
 ·
  rename_i x t a ok ho;simp only[ho,Op.operands]at dP;obtain⟨u,hu,he⟩:=aB.1 h;simp only[au]at he;obtain⟨rfl,rfl⟩:=he;simp only[execOp,ho];exact gF.iQ hs fun hq=>wO (dP x cY) hu hq
 ·
  rename_i t i ho;simp only[ho,Op.operands]at dP
  split at h
  ·rename_i vs Qb;obtain⟨u,hu,he⟩:=aB.1 h;simp only[au]at he;obtain⟨rfl,rfl⟩:=he;have h1:=dP t cY;rw[Qb]at h1;obtain⟨qX,h2,h3⟩:=dQ.1 h1;obtain⟨u',Qc,hr⟩:=h3.get (by simpa using hu);simp only[execOp,ho,h2];refine gF.iQ hs fun hq=>?_
   unfold Instr.extract;simp only[show qX[i]?=some u' by simpa using Qc];exact hq _ hr
  ·cases h
 ·
  rename_i t x ho;simp only[ho,Op.operands]at dP;simp only[execOp,ho];exact gF.val fun hq=>Gc hs (dP x cY) h hq
 ·
  rename_i it s ho;simp only[ho,Op.operands]at dP;simp only[execOp,ho];exact gF.val fun hq=>IK hs (dP it cY) h hq
 ·
  rename_i b args ly ho;have hb:∀x∈args,aP ρ (ev x) (oV x):=fun x hx=>dP x (by rw[ho];simp[Op.operands,Call.operands,hx])
  have Cc:∀cs b,o.op≠ .select cs b:=fun cs b hc=>by rw[ho]at hc;cases hc
  split at h
  ·rename_i s x ha;have rz:args.map oV=#[oV s,oV x]:=by apply Array.ext';simp[ha]
   have h1:=hb s (by rw[<-Array.mem_toList_iff,ha];simp);have h2:=hb x (by rw[<-Array.mem_toList_iff,ha];simp);simp only[execOp,ho,resolve,pure_bind,invoke,builtin,rz];exact gF.val fun hq=>Ed hs h1 h2 h hq
  ·rename_i s x ha;have rz:args.map oV=#[oV s,oV x]:=by apply Array.ext';simp[ha]
   have h1:=hb s (by rw[<-Array.mem_toList_iff,ha];simp);have h2:=hb x (by rw[<-Array.mem_toList_iff,ha];simp);simp only[execOp,ho,resolve,pure_bind,invoke,builtin,rz];exact gF.val fun hq=>JJ hs h1 h2 h hq
  ·rename_i x ha;have rz:args.map oV=#[oV x]:=by apply Array.ext';simp[ha]
   have h2:=hb x (by rw[<-Array.mem_toList_iff,ha];simp);simp only[execOp,ho,resolve,pure_bind,invoke,builtin,rz];exact gF.val fun hq=>Hm hs h2 h hq
  ·rename_i x ha;have rz:args.map oV=#[oV x]:=by apply Array.ext';simp[ha]
   have h2:=hb x (by rw[<-Array.mem_toList_iff,ha];simp)
   split at h
   ·rename_i e base n c he hx;simp only[ah,au]at h;obtain⟨rfl,rfl⟩:=h;rw[hx]at h2;obtain⟨uq,ig,h3,_⟩:=qH.of h2;obtain⟨st,LZ,ei⟩:=bE.1 he;simp only[execOp,ho,resolve,pure_bind,invoke,builtin,rz];refine gF.iQ hs fun hq=>?_
    unfold Builtin.len_;simp only[LZ,h3,List.getElem?_toArray,List.getElem?_cons_zero];rw[ar];refine aH ei ?_;exact hq _ (bM rfl)
   ·exact dd Cc h
  ·exact dd Cc h
  ·exact dd Cc h
  ·cases h
 ·cases h
end
end Go.AM
namespace Go.AM
open Go
def HD (m:Mem)(b:Nat)(k':dU):Prop:=
 m.next<=b\/(m.base<=b/\aL m.bB b=false/\(m.floor<=b\/gN m.opn b=true)/\k'.kind=0)\/
 (m.home<=b/\aL m.bB b=false/\(m.blk b).kind≠1/\k'.kind=(m.blk b).kind)\/
 (m.base<=b/\(m.blk b).kind=1/\k'.kind=1/\k'.sz=(m.blk b).sz/\k'.pos=(m.blk b).pos/\k'.cs.length=(m.blk b).cs.length/\
  ∀o:Nat,k'.cs[o]?≠(m.blk b).cs[o]?->bD m.bB b o=false/\(m.floor<=b\/bD m.opn b o=true))
structure Fr (m m':Mem):Prop where
 rest:m'={m with heap:=m'.heap,next:=m'.next,tick:=m'.tick,deaf:=m'.deaf}
 tick:m.tick<=m'.tick
 next:m.next<=m'.next
 blk:∀b,m'.blk b=m.blk b\/(m.tick<=(m'.blk b).a9/\HD m b (m'.blk b))
section
variable {m m₁ m₂:Mem}
theorem Fr.refl(m:Mem):Fr m m:=⟨rfl,ai _,ai _,fun _=> .inl rfl⟩
theorem Fr.bB(h:Fr m m₁):m₁.bB=m.bB:=by rw[h.rest]
theorem Fr.home(h:Fr m m₁):m₁.home=m.home:=by rw[h.rest]
theorem Fr.base(h:Fr m m₁):m₁.base=m.base:=by rw[h.rest]
theorem Fr.floor(h:Fr m m₁):m₁.floor=m.floor:=by rw[h.rest]
theorem Fr.opn(h:Fr m m₁):m₁.opn=m.opn:=by rw[h.rest]
theorem Fr.wg(h:Fr m m₁):m₁.wg=m.wg:=by rw[h.rest]
theorem Fr.pend(h:Fr m m₁):m₁.pend=m.pend:=by rw[h.rest]
theorem Fr.trans(h:Fr m m₁)(k:Fr m₁ m₂):Fr m m₂:=by
 refine⟨?_,cF h.tick k.tick,cF h.next k.next,fun b=>?_⟩
 ·rw[k.rest,h.rest]
 ·have e1:=h.bB;have e2:=h.home;have e3:=h.base;have e4:=h.floor;have e5:=h.opn;rcases k.blk b with hk|⟨On,Om⟩
  ·rw[hk];exact h.blk b
  ·refine .inr ⟨cF h.tick On,?_⟩;unfold HD at Om;rw[e1,e2,e3,e4,e5]at Om;have hn:=h.next;rcases h.blk b with hb|⟨_,hb⟩
   ·rw[hb]at Om;rcases Om with h1|h1
    ·exact .inl aj
    ·exact .inr h1
   ·rcases Om with h1|h1|⟨h1,h2,h3,h4⟩|⟨h1,h2,h3,h4,h4p,h5,h6⟩
    ·exact .inl aj
    ·exact .inr (.inl h1)
    ·rcases hb with g|g|⟨g1,g2,g3,g4⟩|⟨g1,g2,g3,_,_⟩
     ·exact .inl g
     ·exact .inr (.inl ⟨g.1,g.2.1,g.2.2.1,by rw[h4,g.2.2.2]⟩)
     ·exact .inr (.inr (.inl ⟨g1,g2,g3,by rw[h4,g4]⟩))
     ·exact absurd g3 h3
    ·rcases hb with g|g|⟨g1,g2,g3,g4⟩|⟨g1,g2,g3,g4,g4p,g5,g6⟩
     ·exact .inl g
     ·exact absurd (g.2.2.2.symm.trans h2) cY
     ·exact absurd (g4.symm.trans h2) g3
     ·refine .inr (.inr (.inr ⟨g1,g2,h3,h4.trans g4,h4p.trans g4p,h5.trans g5,fun o ho=>?_⟩))
      by_cases hc:(m₂.blk b).cs[o]?=(m₁.blk b).cs[o]?
      ·exact g6 o (by rw[<-hc];exact ho)
      ·exact h6 o hc
theorem Fr.alloc(m:Mem)(k:dU):Fr m (m.alloc k):=by
 refine⟨rfl,cY,cY,fun b=>?_⟩;rw[Mem.cf]
 split
 ·rename_i h;exact .inr ⟨ai _,.inl aj⟩
 ·exact .inl rfl
theorem Fr.aZ{b:Nat}{k:dU}(h:HD m b {k with a9:=m.tick}):Fr m (m.aZ b k):=by
 refine⟨rfl,cY,cY,fun b'=>?_⟩;rw[Mem.dy]
 split
 ·rename_i e;subst e;exact .inr ⟨ai _,h⟩
 ·exact .inl rfl
theorem Fr.dD{b o:Nat}{vs:List ae}(h:m.dD b o vs=some m₁):Fr m m₁:=by
 obtain⟨cs,rfl,hk,Jg,Ce,_⟩:=Mem.qj h;obtain⟨hl,hg,_⟩:=lT Ce;refine Fr.aZ (.inr (.inr (.inr ⟨Mem.kH Jg,hk,hk,rfl,rfl,hl,fun x hx=>?_⟩)));have u5:cs[x]?≠(m.blk b).cs[x]?:=hx;rw[hg]at u5
 split at u5
 ·rename_i nN;have :=Mem.qO Jg (i:=x-o) aj;rwa[show o+(x-o)=x by omega]at this
 ·exact absurd rfl u5
theorem Fr.own{b:Nat}(h:m.fq b=true):Fr m (m.aZ b {}):=
 Fr.aZ (.inr (.inl ⟨Mem.rV h,(Mem.lX h).1,(Mem.lX h).2,rfl⟩))
theorem Mem.lW{b:Nat}(h:m.bz b=true):aL m.bB b=false/\m.home<=b:=by
 unfold Mem.bz at h;simpa using h
theorem Fr.obj{b:Nat}{k:dU}(h:m.bz b=true)(hk:(m.blk b).kind≠1)(Rg:k.kind=(m.blk b).kind):Fr m (m.aZ b k):=
 Fr.aZ (.inr (.inr (.inl ⟨(Mem.lW h).2,(Mem.lW h).1,hk,Rg⟩)))
def dU.live(k:dU):Prop:=(∀x∈k.cs,x≠none)/\k.kind<=3
structure Wf (m:Mem):Prop where
 a9:∀b,(m.blk b).a9<m.tick
 xM:∀b,m.next<=b->(m.blk b).kind=0
 bB:∀s∈m.bB,s.2.1<=m.next
 fl:m.floor<=m.next
 live:∀b,(m.blk b).live
theorem Wf.alloc(h:Wf m)(k:dU)(hkl:k.live):Wf (m.alloc k):=by
 refine⟨fun b=>?_,fun b hb=>?_,fun s hs=>Nat.le_succ_of_le (h.bB s hs),Nat.le_succ_of_le h.fl,fun b=>?_⟩
 ·rw[Mem.cf]
  split
  ·show m.tick<m.tick+1;omega
  ·have :=h.a9 b;show _<m.tick+1;omega
 ·have iL:m.next+1<=b:=hb;rw[Mem.cf,bZ aj];exact h.xM b aj
 ·rw[Mem.cf]
  split
  ·exact hkl
  ·exact h.live b
theorem Wf.aZ(h:Wf m){b:Nat}{k:dU}(hk:(m.blk b).kind≠0\/k.kind=0)(hkl:k.live):Wf (m.aZ b k):=by
 refine⟨fun b'=>?_,fun b' hb=>?_,h.bB,h.fl,fun b'=>?_⟩
 ·rw[Mem.dy]
  split
  ·show m.tick<m.tick+1;omega
  ·have :=h.a9 b';show _<m.tick+1;omega
 ·rw[Mem.dy]
  split
  ·rename_i e;subst e;rcases hk with hk|hk
   ·exact absurd (h.xM b hb) hk
   ·exact hk
  ·exact h.xM b' hb
 ·rw[Mem.dy]
  split
  ·exact hkl
  ·exact h.live b'
def jb (m m':Mem):Prop:=Fr m m'/\m'.deaf=m.deaf/\(Wf m->Wf m')
theorem jb.refl(m:Mem):jb m m:=⟨Fr.refl m,rfl,id⟩
theorem jb.trans(h:jb m m₁)(k:jb m₁ m₂):jb m m₂:=⟨h.1.trans k.1,k.2.1.trans h.2.1,fun x=>k.2.2 (h.2.2 x)⟩
theorem jb.alloc(m:Mem)(k:dU)(hk:k.live):jb m (m.alloc k):=⟨Fr.alloc m k,rfl,fun h=>h.alloc k hk⟩
theorem jb.dD{b o:Nat}{vs:List ae}(h:m.dD b o vs=some m₁):jb m m₁:=by
 refine⟨Fr.dD h,?_⟩;obtain⟨cs,rfl,hk,Jg,Ce,_⟩:=Mem.qj h;obtain⟨hl,hg,_⟩:=lT Ce;refine⟨rfl,fun hw=>hw.aZ (.inl (by rw[hk];simp)) ⟨fun x hx=>?_,by show(m.blk b).kind<=3;omega⟩⟩;have hx:x∈cs:=hx;obtain⟨i,hi⟩:=List.getElem?_of_mem hx;rw[hg]at hi
 split at hi
 ·rename_i nN;obtain⟨v,hv⟩:∃v,vs[i-o]?=some v:=⟨vs[i-o]'aj,List.getElem?_eq_getElem aj⟩;rw[hv]at hi;simp at hi;rw[<-hi];simp
 ·exact(hw.live b).1 x (List.mem_of_getElem? hi)
theorem jb.own{b:Nat}(h:m.fq b=true):jb m (m.aZ b {}):=⟨Fr.own h,rfl,fun hw=>hw.aZ (.inr rfl) ⟨(by intro x hx;cases hx),Nat.zero_le _⟩⟩
theorem jb.obj{b:Nat}{k:dU}(h:m.bz b=true)(hk:(m.blk b).kind≠1)(Cj:(m.blk b).kind≠0)(Rg:k.kind=(m.blk b).kind)(ik:k.cs=(m.blk b).cs):jb m (m.aZ b k):=⟨Fr.obj h hk Rg,rfl,fun hw=>hw.aZ (.inl Cj) ⟨fun x hx=>(hw.live b).1 x (ik▸hx),by rw[Rg];exact(hw.live b).2⟩⟩
variable {P:aD}{v:ae}
theorem MM {ly:Array aM}{s x:ae}(h:cJ P ly s x m=some (v,m₁)):jb m m₁:=by
 unfold cJ at h
 split at h
 ·split at h
  ·split at h
   ·cases h
   ·split at h
    ·cases h
    ·split at h
     ·split at h
      ·simp only[]at h
       split at h
       ·rename_i hk;simp only[ag,beq_iff_eq]at hk
        split at h
        ·simp only[ah,au]at h;obtain⟨_,rfl⟩:=h;exact(jb.own hk.1.2).trans (jb.alloc _ _ W0)
        ·cases h
       ·cases h
      ·cases h
     ·split at h
      ·split at h
       ·obtain⟨m2,yn,he⟩:=aB.1 h;simp only[au]at he;obtain⟨_,rfl⟩:=he;exact jb.dD yn
       ·simp only[ah,au]at h;obtain⟨_,rfl⟩:=h;exact jb.refl _
       ·cases h
      ·split at h
       ·split at h
        ·simp only[ah,au]at h;obtain⟨_,rfl⟩:=h;exact jb.alloc _ _ W0
        ·cases h
       ·cases h
  ·cases h
 ·cases h
theorem Wp {ly:Array aM}{d s:ae}(h:xU P ly d s m=some (v,m₁)):jb m m₁:=by
 unfold xU at h
 split at h
 ·split at h
  ·split at h
   ·obtain⟨_,_,h⟩:=bE.1 h
    split at h
    ·obtain⟨m2,yn,he⟩:=aB.1 h;simp only[au]at he;obtain⟨_,rfl⟩:=he;exact jb.dD yn
    ·simp only[ah,au]at h;obtain⟨_,rfl⟩:=h;exact jb.refl _
    ·cases h
   ·cases h
  ·cases h
 ·cases h
theorem Qy {ly:Array aM}{x:ae}(h:mY P ly x m=some (v,m₁)):jb m m₁:=by
 unfold mY at h
 split at h
 ·split at h
  ·simp only[ah,au]at h;obtain⟨_,rfl⟩:=h;exact jb.refl _
  ·split at h
   ·simp only[ah,au]at h;obtain⟨_,rfl⟩:=h;exact jb.refl _
   ·obtain⟨_,_,h⟩:=bE.1 h;obtain⟨m2,yn,he⟩:=aB.1 h;simp only[au]at he;obtain⟨_,rfl⟩:=he;exact jb.dD yn
  ·cases h
 ·cases h
theorem JK {s d:aM}{x:ae}(h:eU P s d x m=some (v,m₁)):jb m m₁:=by
 unfold eU at h
 split at h
 ·simp only[]at h
  split at h
  ·split at h
   ·simp only[ah,au]at h;obtain⟨_,rfl⟩:=h;exact jb.refl _
   ·cases h
  ·cases h
 ·split at h
  ·split at h
   ·cases h
   ·simp only[ah,au]at h;obtain⟨_,rfl⟩:=h;exact jb.alloc _ _ W0
  ·cases h
 ·split at h
  ·simp only[ah,au]at h;obtain⟨_,rfl⟩:=h;exact jb.refl _
  ·obtain⟨_,_,h⟩:=bE.1 h;obtain⟨_,_,h⟩:=aB.1 h;simp only[au]at h;obtain⟨_,rfl⟩:=h;exact jb.refl _
  ·cases h
 ·cases h
theorem DK {t:aM}{x k u:ae}(h:iV P t x k u m=some m₁):jb m m₁:=by
 unfold iV at h
 split at h
 ·split at h
  ·simp only[]at h
   split at h
   ·rename_i hc;simp only[ag,beq_iff_eq]at hc;have h1:=hc.1.1;have h2:=hc.1.2
    split at h
    ·simp only[ah]at h;subst h;exact jb.obj h2 aj aj rfl rfl
    ·simp only[ah]at h;subst h;exact jb.obj h2 aj aj rfl rfl
   ·cases h
  ·cases h
 ·unfold tM at h;simp only[]at h
  split at h
  ·rename_i hr;obtain⟨h1,h2,_⟩:=mL hr
   split at h
   ·split at h
    ·cases h;exact jb.obj h2 aj aj rfl rfl
    ·cases h
   ·cases h
  ·rename_i hr;obtain⟨h1,h2,_⟩:=mL hr;cases h;exact jb.obj h2 aj aj rfl rfl
  ·cases h
 ·cases h
theorem PE {t:aM}{x:ae}(h:yG P t x m=some (v,m₁)):jb m m₁:=by
 unfold yG at h
 split at h
 ·simp only[ah,au]at h;obtain⟨_,rfl⟩:=h;exact jb.alloc _ _ W0
 ·cases h
theorem Tn {it:ae}{s:Bool}(h:EN it s m=some (v,m₁)):jb m m₁:=by
 unfold EN at h
 split at h
 ·simp only[]at h
  split at h
  ·rename_i hc;simp only[ag,beq_iff_eq]at hc
   split at h
   ·simp only[ah,au]at h;obtain⟨_,rfl⟩:=h;exact jb.obj hc.2 aj aj rfl rfl
   ·simp only[ah,au]at h;obtain⟨_,rfl⟩:=h;exact jb.refl _
  ·cases h
 ·cases h
theorem gH {o:Option ae}(h:o.map (fun v=>(v,m))=some (v,m₁)):jb m m₁:=by
 obtain⟨_,_,he⟩:=aB.1 h;simp only[au]at he;obtain⟨_,rfl⟩:=he;exact jb.refl _
theorem kU {u:ae}(h:some (u,m)=some (v,m₁)):jb m m₁:=by
 simp only[ah,au]at h;obtain⟨_,rfl⟩:=h;exact jb.refl _
theorem Ps {t:aM}{p x:ae}(h:vz P t p x m=some m₁):jb m m₁:=by
 unfold vz at h
 split at h
 ·split at h
  ·exact jb.dD h
  ·cases h
 ·cases h
theorem zU {sz:Nat}{cs:List ae}(h:cz m sz cs=(v,m₁)):jb m m₁:=by
 simp only[cz,au]at h;obtain⟨_,rfl⟩:=h;exact jb.alloc _ _ W0
theorem OD {o:Option Mem}(ho:∀m₂,o=some m₂->jb m m₂)(h:o.map (fun m'=>(undef,m'))=some (v,m₁)):jb m m₁:=by
 obtain⟨m2,hm,he⟩:=aB.1 h;simp only[au]at he;obtain⟨_,rfl⟩:=he;exact ho _ hm
theorem C0 {t:aM}{n:Nat}{ps:List (Nat×ae)}(h:bI P t n ps m=some (v,m₁)):jb m m₁:=by
 unfold bI at h
 split at h
 ·split at h
  ·split at h
   ·cases h
   ·obtain⟨_,_,he⟩:=aB.1 h;simp only[au]at he;obtain⟨_,rfl⟩:=he;exact jb.alloc _ _ W0
  ·cases h
 ·cases h
theorem DL {t:aM}{l c:ae}(h:fV P t l c m=some (v,m₁)):jb m m₁:=by
 unfold fV at h
 split at h
 ·split at h
  ·split at h
   ·simp only[ah,au]at h;obtain⟨_,rfl⟩:=h;exact jb.alloc _ _ W0
   ·cases h
  ·cases h
 ·cases h
set_option maxHeartbeats 1000000 in
theorem SW{ev:cd->ae}{o:im}(h:dp P ev o m=some (v,m₁)):jb m m₁:=by
 unfold dp at h
 split at h
 ·exact kU h
 ·exact kU h
 ·split at h
  ·exact kU h
  ·cases h
 ·obtain⟨z,hz,he⟩:=aB.1 h;exact zU he
 ·exact zU (Option.some.inj h)
 ·exact gH h
 ·exact C0 h
 ·exact gH h
 ·exact OD (fun _ hm=>Ps hm) h
 ·split at h
  ·exact kU h
  ·split at h
   ·split at h
    ·exact kU h
    ·cases h
   ·cases h
  ·cases h
 ·split at h
  ·split at h
   ·exact kU h
   ·exact gH h
  ·split at h
   ·exact kU h
   ·exact gH h
  ·exact gH h
 ·exact gH h
 ·split at h
  ·rename_i hr;exact JK (hr.trans h)
  ·exact gH h
 ·split at h
  ·cases h
  ·exact kU h
  ·cases h
 ·exact kU h
 ·simp only[ah,au]at h;obtain⟨_,rfl⟩:=h;exact jb.alloc _ _ W0
 ·exact DL h
 ·split at h
  ·exact kU h
  ·exact gH h
 ·exact gH h
 ·exact gH h
 ·exact gH h
 ·split at h
  ·exact kU h
  ·exact gH h
 ·exact gH h
 ·exact OD (fun _ hm=>DK hm) h
 ·exact gH h
 ·split at h
  ·exact gH h
  ·cases h
 ·exact PE h
 ·exact Tn h
 ·split at h
  ·exact MM h
  ·exact Wp h
  ·exact Qy h
  ·split at h
   ·exact kU h
   ·exact gH h
  ·exact gH h
  ·exact gH h
  ·cases h
 ·cases h
end
end Go.AM
namespace Go.AM
open Go
structure dG where
 ok:Perm->ay->Prop
inductive Sub where
 |opn(V:Nat)|added(V:Nat)|seen(vs:Nat)|reg|V0|fin
structure GS where
 Wg:Nat
 vf:List dG
 sub:Sub
inductive mA where
 |AL
 |idle
 |fL(g:GS)
structure aeg (s:AJ)(mk:Mem):Prop where
 heap:mk.heap=s.heap
 next:mk.next=s.hi
 opn:mk.opn=s.oJ
 bB:mk.bB=s.bB
 home:mk.home=s.lo
 floor:mk.floor=s.lo
 base:mk.base<=s.lo
def postOf (s:AJ)(Pe:cZ):dG:=
 ⟨fun R w=>∃yp mk,aeg s mk/\(∀b,b<s.lo->yp b=Pe b)/\fI yp mk w/\(∀b o,(aA yp mk).rd b o->R.rd b o)/\(∀b,(aA yp mk).ob b->R.ob b)/\∀b o,(aA yp mk).wr b o->R.wr b o⟩
def dU.alike(k k':dU):Prop:=k.kind=k'.kind/\k.sz=k'.sz/\k.pos=k'.pos/\k.cs=k'.cs/\(k.kind≠1->k.es=k'.es/\k.clock=k'.clock/\k.str=k'.str)
def Mem.Bw(m:Mem)(h:j8)(s:Span):Prop:=
 ∀b,s.1<=b->b<s.2.1->match s.2.2 with
 |none=>(m.blk b).alike (h.get b)
 |some o=>(m.blk b).kind=1/\(h.get b).kind=1/\(m.blk b).sz=(h.get b).sz/\(m.blk b).pos=(h.get b).pos/\(m.blk b).cs.length=(h.get b).cs.length/\(m.blk b).cs[o]?=(h.get b).cs[o]?
structure SOk (m:Mem)(ρ:cZ)(s:AJ)(p:dG):Prop where
 post:∃Pe,p=postOf s Pe/\∀b,b<s.lo->ρ b=Pe b
 none:∀b,s.lo<=b->b<s.hi->ρ b=Option.none
 lo:s.lo<=s.hi
 hi:s.hi<=m.floor
 next:s.hi<=m.next
 same:∀x,x=(s.lo,s.hi,Option.none)\/x∈s.oJ->m.Bw s.heap x
 bB:∀x,x=(s.lo,s.hi,Option.none)\/x∈s.oJ->x∈m.bB
 below:∀x,x=(s.lo,s.hi,Option.none)\/x∈s.oJ->x.2.1<=m.next
 lb:∀x,x∈s.bB\/x∈s.oJ->x.2.1<=s.lo
 ap:∀b o,bD s.oJ b o=true->bD s.bB b o=false
 lk:∀x,x∈s.oJ->∀b,x.1<=b->b<x.2.1->(s.heap.get b).kind<=1
 live:∀b,(s.heap.get b).live
 kk:∀b,b<s.lo->(m.blk b).kind≠0->(s.heap.get b).kind=(m.blk b).kind
 hm:m.home<=s.lo
def GOk (σ:mA)(ρ:cZ)(m:Mem):Prop:=
 match σ with
 | .AL=>True
 | .idle=>m.wg=none/\m.pend=[]/\m.home<=m.next
 | .fL g=>g.sub= .opn g.vf.length/\g.vf.length<=4/\(m.home<=m.next/\m.base<=m.next)/\∃wa,m.wg=some wa/\wa<m.next/\wa<m.floor/\(∀p,ρ wa=some p->p.c=g.Wg/\p.d=0)/\bC (SOk m ρ) m.pend g.vf/\(∀x∈m.bB,∃s∈m.pend,x=(s.lo,s.hi,Option.none)\/x∈s.oJ)/\m.pend.Pairwise fun s t=>t.hi<=s.lo
section
variable {m m':Mem}{ρ bq:cZ}
theorem mT {l:List Span}{s:Span}(h:s∈l){b o:Nat}(h1:s.1<=b)(h2:b<s.2.1)(h3:s.2.2=none\/s.2.2=some o):bD l b o=true:=by
 unfold bD;rw[List.any_eq_true];refine⟨s,h,?_⟩;simp only[ag,jE];refine⟨⟨h1,h2⟩,?_⟩;rcases h3 with h3|h3<;>rw[h3]<;>simp
theorem qi {l:List Span}{s:Span}(h:s∈l){b:Nat}(h1:s.1<=b)(h2:b<s.2.1):aL l b=true:=by
 unfold aL;rw[List.any_eq_true];exact⟨s,h,by simp[h1,h2]⟩
theorem D9 {l:List Span}{s:Span}(h:s∈l){b:Nat}(h1:s.1<=b)(h2:b<s.2.1)(h3:s.2.2=none):∀o,bD l b o=true:=fun o=>mT h h1 h2 (.inl h3)
theorem l8 {l:List Span}{b o:Nat}(h:bD l b o=true):aL l b=true:=by
 rcases ht:aL l b with _|_
 ·rw[dR ht]at h;cases h
 ·rfl
theorem zK (h:Fr m m'){x:Span}(hx:x∈m.bB)(Jc:x.2.1<=m.next){hp:j8}(hs:m.Bw hp x):m'.Bw hp x:=by
 intro b h1 h2;have hs:=hs b h1 h2
 split
 ·rename_i hn;simp only[hn]at hs;rcases h.blk b with e|⟨_,ha⟩
  ·rw[e];exact hs
  ·have Oc:=qi hx h1 h2;rcases ha with h3|⟨_,h3,_⟩|⟨_,h3,_⟩|⟨_,h3,h4,h5,h6,h7,h8⟩
   ·omega
   ·rw[Oc]at h3;cases h3
   ·rw[Oc]at h3;cases h3
   ·obtain⟨g1,g2,g3,g4,g5⟩:=hs;refine⟨h4.trans (h3.symm.trans g1),h5.trans g2,h6.trans g3,?_,fun hk=>absurd h4 hk⟩;rw[<-g4];refine List.ext_getElem? fun o=>?_
    by_cases hc:(m'.blk b).cs[o]?=(m.blk b).cs[o]?
    ·exact hc
    ·have :=(h8 o hc).1;rw[D9 hx h1 h2 hn o]at this;cases this
 ·rename_i o ho;simp only[ho]at hs;obtain⟨g1,g2,g3,g4,g5,g6⟩:=hs;rcases h.blk b with e|⟨_,ha⟩
  ·rw[e];exact⟨g1,g2,g3,g4,g5,g6⟩
  ·have Oc:=qi hx h1 h2;rcases ha with h3|⟨_,h3,_⟩|⟨_,h3,_⟩|⟨_,h3,h4,h5,h6,h7,h8⟩
   ·omega
   ·rw[Oc]at h3;cases h3
   ·rw[Oc]at h3;cases h3
   ·refine⟨h4,g2,h5.trans g3,h6.trans g4,h7.trans g5,?_⟩
    by_cases hc:(m'.blk b).cs[o]?=(m.blk b).cs[o]?
    ·rw[hc];exact g6
    ·have :=(h8 o hc).1;rw[mT hx h1 h2 (.inr ho)]at this;cases this
theorem SOk.fr(h:Fr m m')(hle:ρ.le bq)(hold:∀b,b<m.next->bq b=ρ b){s:AJ}{p:dG}(hs:SOk m ρ s p):SOk m' bq s p where
 post:=let⟨Pe,e,hb⟩:=hs.post;⟨Pe,e,fun b Jm=>by rw[hold b (by have :=hs.lo;have :=hs.next;omega)];exact hb b Jm⟩
 none b h1 h2:=by rw[hold b (by have :=hs.next;omega)];exact hs.none b h1 h2
 lo:=hs.lo
 hi:=by rw[h.floor];exact hs.hi
 next:=cF hs.next h.next
 same x hx:=zK h (hs.bB x hx) (hs.below x hx) (hs.same x hx)
 bB x hx:=by rw[h.bB];exact hs.bB x hx
 below x hx:=cF (hs.below x hx) h.next
 lb:=hs.lb
 ap:=hs.ap
 lk:=hs.lk
 live:=hs.live
 kk b hb hk:=by
  rcases h.blk b with e|⟨_,ha⟩
  ·rw[e]at hk⊢;exact hs.kk b hb hk
  ·have :=hs.lo;have :=hs.next;rcases ha with h3|⟨_,_,_,h3⟩|⟨_,_,_,h3⟩|⟨_,h3,h4,_⟩
   ·omega
   ·exact absurd h3 hk
   ·rw[h3];exact hs.kk b hb (by rw[<-h3];exact hk)
   ·rw[h4,<-h3];exact hs.kk b hb (by rw[h3];simp)
 hm:=by rw[h.home];exact hs.hm
theorem GOk.fr(h:Fr m m')(hle:ρ.le bq)(hold:∀b,b<m.next->bq b=ρ b){σ:mA}(hg:GOk σ ρ m):GOk σ bq m':=by
 cases σ with
 |AL=>trivial
 |idle=>exact⟨h.wg.trans hg.1,h.pend.trans hg.2.1,by rw[h.home];exact cF hg.2.2 h.next⟩
 |fL g=>
  obtain⟨g1,g2,g0,wa,h1,hw,I6,h2,h3,h4⟩:=hg;refine⟨g1,g2,⟨by rw[h.home];exact cF g0.1 h.next,by rw[h.base];exact cF g0.2 h.next⟩,wa,h.wg.trans h1,a8 hw h.next,by rw[h.floor];exact I6,fun p hp=>h2 p ?_,?_,by rw[h.bB,h.pend];exact h4⟩
  ·rw[<-hold wa hw];exact hp
  ·rw[h.pend];exact h3.mono fun s p hs=>hs.fr h hle hold
theorem GOk.above{σ:mA}(hg:GOk σ ρ m)(h:∀b,b<m.floor->bq b=ρ b):GOk σ bq m:=by
 cases σ with
 |AL=>trivial
 |idle=>exact hg
 |fL g=>
  obtain⟨g1,g2,g0,wa,h1,hw,I6,h2,h3,h4⟩:=hg;refine⟨g1,g2,g0,wa,h1,hw,I6,fun p hp=>h2 p (by rw[<-h wa I6];exact hp),h3.mono fun s p hs=>?_,h4⟩;exact⟨let⟨Pe,e,hb⟩:=hs.post;⟨Pe,e,fun b Jm=>by rw[h b (by have :=hs.lo;have :=hs.hi;omega)];exact hb b Jm⟩,fun b b1 b2=>by rw[h b (by have :=hs.hi;omega)];exact hs.none b b1 b2,
   hs.lo,hs.hi,hs.next,hs.same,hs.bB,hs.below,hs.lb,hs.ap,hs.lk,hs.live,hs.kk,hs.hm⟩
end
end Go.AM
namespace Go.AM
open Go
abbrev Tm:=N8 (N8 (N8 ae))
def cV (t:Nat)(tm:Tm):ae:=((tm.get (rO t 64)).get (rO t 8)).get (Nat.mod t 8)
def tn (t:Nat)(v:ae)(tm:Tm):Tm:=
 tm.put (rO t 64) ((tm.get (rO t 64)).put (rO t 8) (((tm.get (rO t 64)).get (rO t 8)).put (Nat.mod t 8) v))
def Kr:List ae->ae
 | []=>undef
 |x::_=>x
def kh:List ae->List ae
 | []=>[]
 |_::l=>l
def Ga (l:List ae):N8 ae:=
 ⟨Kr l,Kr (kh l),Kr (kh (kh l)),Kr (kh (kh (kh l))),Kr (kh (kh (kh (kh l)))),Kr (kh (kh (kh (kh (kh l))))),Kr (kh (kh (kh (kh (kh (kh l)))))),Kr (kh (kh (kh (kh (kh (kh (kh l)))))))⟩
def Q3 (l:List ae):List ae:=kh (kh (kh (kh (kh (kh (kh (kh l)))))))
def pX:N8 ae:=N8.all undef
def iP:N8 (N8 ae):=N8.all pX
def lL:Tm:=N8.all iP
def Dw (l:List ae):Option Tm:=
 match Q3 (Q3 l)with
 | []=>some ⟨⟨Ga l,Ga (Q3 l),pX,pX,pX,pX,pX,pX⟩,iP,iP,iP,iP,iP,iP,iP⟩
 |_=>none
def ai8 {α:Type}(x:α)(n:N8 α):N8 α:=match n with |⟨_,b,c,d,e,f,g,h⟩=>⟨x,b,c,d,e,f,g,h⟩
def ai7 {α:Type}(x:α)(n:N8 α):N8 α:=match n with |⟨a,_,c,d,e,f,g,h⟩=>⟨a,x,c,d,e,f,g,h⟩
def ai6 {α:Type}(x:α)(n:N8 α):N8 α:=match n with |⟨a,b,_,d,e,f,g,h⟩=>⟨a,b,x,d,e,f,g,h⟩
def ai5 {α:Type}(x:α)(n:N8 α):N8 α:=match n with |⟨a,b,c,_,e,f,g,h⟩=>⟨a,b,c,x,e,f,g,h⟩
def ai4 {α:Type}(x:α)(n:N8 α):N8 α:=match n with |⟨a,b,c,d,_,f,g,h⟩=>⟨a,b,c,d,x,f,g,h⟩
def ai3 {α:Type}(x:α)(n:N8 α):N8 α:=match n with |⟨a,b,c,d,e,_,g,h⟩=>⟨a,b,c,d,e,x,g,h⟩
def ai2 {α:Type}(x:α)(n:N8 α):N8 α:=match n with |⟨a,b,c,d,e,f,_,h⟩=>⟨a,b,c,d,e,f,x,h⟩
def ai1 {α:Type}(x:α)(n:N8 α):N8 α:=match n with |⟨a,b,c,d,e,f,g,_⟩=>⟨a,b,c,d,e,f,g,x⟩
def Sm {α β:Type}(i:Nat)(k:(N8 α->α)->(α->N8 α->N8 α)->Option β):Option β:=
 match i with
 |0=>k N8.a ai8
 |1=>k N8.b ai7
 |2=>k N8.c ai6
 |3=>k N8.d ai5
 |4=>k N8.e ai4
 |5=>k N8.f ai3
 |6=>k N8.g ai2
 |7=>k N8.h ai1
 |_=>none
abbrev kA:=Tm->ae
abbrev Put:=ae->Tm->Tm
def ala (f:Tm->N8 (N8 ae))(g:N8 (N8 ae)->N8 ae)(h:N8 ae->ae):kA:=fun tm=>h (g (f tm))
def ajt (f:Tm->N8 (N8 ae))(g:N8 (N8 ae)->N8 ae)(F:N8 (N8 ae)->Tm->Tm)(G:N8 ae->N8 (N8 ae)->N8 (N8 ae))(H:ae->N8 ae->N8 ae):Put:=
 fun v tm=>F (G (H v (g (f tm))) (f tm)) tm
def FT {β:Type}(t:Nat)(k:kA->Put->Option β):Option β:=
 Sm (Nat.div t 64) fun f F=>Sm (rO t 8) fun g G=>Sm (Nat.mod t 8) fun h H=>k (ala f g h) (ajt f g F G H)
def Mu (v:ae):kA:=fun _=>v
def dj (tm:Tm)(x:cd):ae:=
 match x with
 | .tmp t=>cV t tm
 | .const v=>v
 | .global g=>ptrTo g 0
 | .func f=> .func (.func f) #[] #[]
def eF {α:Type}(x:cd)(k:kA->Option α):Option α:=
 match x with
 | .tmp t=>FT t fun o _=>k o
 | .const v=>k (Mu v)
 | .global g=>k (Mu (ptrTo g 0))
 | .func f=>k (Mu (.func (.func f) #[] #[]))
def sJ {α:Type}:List cd->(List kA->Option α)->Option α
 | [],k=>k []
 |x::l,k=>eF x fun o=>sJ l fun os=>k (o::os)
def rA (nt ng:Nat)(x:cd):Bool:=
 match x with
 | .tmp t=>Nat.blt t nt
 | .const v=>plain v
 | .global g=>Nat.blt g ng
 | .func _=>true
abbrev Df:=List (Nat×List ae)
structure Ss where
 tm:Tm
 mem:Mem
 df:Df
abbrev Rs:=Option Ss
abbrev Kv:=ae->Mem->Df->Rs
abbrev lM:=bJ->Tm->Mem->Df->Kv->Rs
abbrev iC:=bJ->Tm->Mem->Df->Rs
abbrev F:=bJ->Ss->Option (Exit×Ss)
def jr (P:aD)(o:im):lM:=fun _ tm m df k=>
 match dp P (dj tm) o m with
 |some (v,m')=>k v m' df
 |none=>none
def Tv (x:kA):lM:=fun _ tm m df k=>k (x tm) m df
def Kw:List kA->Tm->List ae
 | [],_=>[]
 |x::l,tm=>x tm::Kw l tm
def JZ (r:Option (ae×Mem))(df:Df)(k:Kv):Rs:=
 match r with
 |some (v,m')=>k v m' df
 |none=>none
def Ww (f:Nat)(xs:List kA):lM:=fun call tm m df k=>JZ (call f (Kw xs tm) m) df k
def JY (x:kA)(xs:List kA):lM:=fun call tm m df k=>
 match x tm with
 | .func (.func f) first cap=>JZ (call f (first.toList++Kw xs tm++cap.toList) m) df k
 |_=>none
def OU (P:aD)(r:kA)(name:String)(xs:List kA):lM:=fun call tm m df k=>
 match dN P (r tm) name with
 |some (f,recv)=>JZ (call f (recv::Kw xs tm) m) df k
 |none=>none
def Hh (x:kA)(xs:List kA):lM:=fun _ tm m df k=>
 match x tm with
 | .func (.func f) first cap=>k undef m ((f,first.toList++Kw xs tm++cap.toList)::df)
 |_=>none
def eX:Int->Int->Bool
 | .ofNat a,.ofNat b=>Nat.blt a b
 | .ofNat _,.negSucc _=>false
 | .negSucc _,.ofNat _=>true
 | .negSucc a,.negSucc b=>Nat.blt b a
def GH (a b:Int):Bool:=!eX b a
def sV (a b:Int):Bool:=eX b a
def xJ (a b:Int):Bool:=!eX a b
def cN:Int->Int->Bool
 | .ofNat a,.ofNat b=>Nat.beq a b
 | .negSucc a,.negSucc b=>Nat.beq a b
 |_,_=>false
def sT (a b:Int):Bool:=!cN a b
def uw:Int->Int->Option Nat
 | .ofNat a,.ofNat b=>some (Nat.add a b)
 |_,_=>none
def vy:Int->Int->Option Nat
 | .ofNat a,.ofNat b=>if Nat.ble b a then some (Nat.sub a b)else none
 |_,_=>none
def Gp (_ _:Int):Option Nat:=none
def iI:bX->Nat
 | .i8=>128
 | .i16=>32768
 | .i32=>2147483648
 | .i64=>9223372036854775808
 | .u8=>256
 | .u16=>65536
 | .u32=>4294967296
 | .u64=>18446744073709551616
def xg:bX->Nat
 | .i8=>0
 | .i16=>1
 | .i32=>2
 | .i64=>3
 | .u8=>4
 | .u16=>5
 | .u32=>6
 | .u64=>7
def Eb (f:Int->Int->Bool)(x y:kA):lM:=fun _ tm m df k=>
 match x tm with
 | .int a i=>match y tm with
  | .int b j=>if Nat.beq (xg a) (xg b)then k (.bool (f i j)) m df else none
  |_=>none
 |_=>none
def arF (q:Int->Int->Option Nat)(f:Int->Int->Int)(x y:kA):lM:=fun _ tm m df k=>
 match x tm with
 | .int a i=>match y tm with
  | .int b j=>if Nat.beq (xg a) (xg b)then
    match q i j with
    |some n=>if Nat.blt n (iI a)then k (.int a (.ofNat n)) m df else k (.int a (a.wrap (f i j))) m df
    |none=>k (.int a (a.wrap (f i j))) m df
   else none
  |_=>none
 |_=>none
def yB (want:Bool)(x y:kA):lM:=fun _ tm m df k=>
 match x tm with
 | .string a=>match y tm with
  | .string b=>k (.bool ((a.toList==b.toList)==want)) m df
  |_=>none
 |_=>none
def QA (x y:kA):lM:=fun _ tm m df k=>
 match x tm with
 | .string a=>match y tm with
  | .string b=>if Nat.blt (a.size+b.size) 9223372036854775808 then k (.string (a++b)) m df else none
  |_=>none
 |_=>none
def Ap (P:aD)(o:im)(q:Nat->Nat->Nat)(x y:kA):lM:=fun call tm m df k=>
 match x tm with
 | .int a (.ofNat i)=>match y tm with
  | .int b (.ofNat j)=>if Nat.beq (xg a) (xg b)&&Nat.blt i (iI a)&&Nat.blt j (iI a)then k (.int a (.ofNat (q i j))) m df else jr P o call tm m df k
  |_=>none
 |_=>jr P o call tm m df k
def Hc (P:aD)(o:im)(q:Nat->Nat->Nat)(x y:kA):lM:=fun call tm m df k=>
 match x tm with
 | .int a (.ofNat i)=>match y tm with
  | .int b (.ofNat (j+1))=>if Nat.beq (xg a) (xg b)&&Nat.blt i (iI a)then k (.int a (.ofNat (q i (Nat.succ j)))) m df else jr P o call tm m df k
  |_=>jr P o call tm m df k
 |_=>jr P o call tm m df k
def WG (P:aD)(o:im)(op:BinOp)(t:aM)(x y:kA):Option lM:=
 match P.underlying t with
 |some (.int _)=>match op with
  | .lss=>some (Eb eX x y)
  | .leq=>some (Eb GH x y)
  | .gtr=>some (Eb sV x y)
  | .geq=>some (Eb xJ x y)
  | .eql=>some (Eb cN x y)
  | .neq=>some (Eb sT x y)
  | .add=>some (arF uw Int.add x y)
  | .sub=>some (arF vy Int.sub x y)
  | .mul=>some (arF Gp Int.mul x y)
  | .or=>some (Ap P o Nat.lor x y)
  | .and=>some (Ap P o Nat.land x y)
  | .xor=>some (Ap P o Nat.xor x y)
  | .quo=>some (Hc P o Nat.div x y)
  | .rem=>some (Hc P o Nat.mod x y)
  |_=>some (jr P o)
 |some .string=>match op with
  | .eql=>some (yB true x y)
  | .neq=>some (yB false x y)
  | .add=>some (QA x y)
  |_=>some (jr P o)
 |_=>some (jr P o)
def Ix (c x y:kA):lM:=fun _ tm m df k=>
 match c tm with
 | .bool true=>k (x tm) m df
 | .bool false=>k (y tm) m df
 |_=>none
def AB (p:ae)(k:Nat->Nat->Rs):Rs:=
 match p with
 | .pointer (some ⟨b,o,none⟩)=>k b o
 |_=>none
def JE {α:Type}:Nat->List α->List α
 |0,l=>l
 |1,l=>match l with |_::t=>t|_=>[]
 |2,l=>match l with |_::_::t=>t|_=>[]
 |3,l=>match l with |_::_::_::t=>t|_=>[]
 |4,l=>match l with |_::_::_::_::t=>t|_=>[]
 |5,l=>match l with |_::_::_::_::_::t=>t|_=>[]
 |6,l=>match l with |_::_::_::_::_::_::t=>t|_=>[]
 |7,l=>match l with |_::_::_::_::_::_::_::t=>t|_=>[]
 |n+8,l=>match l with |_::_::_::_::_::_::_::_::t=>JE n t|_=>[]
def Ot (m:Mem)(b o n:Nat):Bool:=
 match m.bB with
 | []=>true
 |l=>!meets l b o n
def z0 (m:Mem)(b o:Nat)(k:ae->Rs):Rs:=
 match m.blk b with
 |⟨1,_,cs,_,_,_,_,_⟩=>if Ot m b o 1 then
   match JE o cs with
   |some v::_=>k v
   |_=>none
  else none
 |_=>none
def LG (x:kA):lM:=fun _ tm m df k=>AB (x tm) fun b o=>z0 m b o fun v=>k v m df
def ad0 (l:Option (List ae))(k:ae->Rs):Rs:=
 match l with
 |some l=>k (.agg l.toArray)
 |none=>none
def LD (n:Nat)(x:kA):lM:=fun _ tm m df k=>AB (x tm) fun b o=>ad0 (m.dv b o n) fun v=>k v m df
def IW (P:aD)(o:im)(t:aM)(x:kA):Option lM:=
 match wq P t with
 |some true=>match dV P t with
  |some n=>some (LD n x)
  |none=>some (jr P o)
 |some false=>some (LG x)
 |none=>some (jr P o)
def agR (r:Option Mem)(k:Mem->Rs):Rs:=
 match r with
 |some m=>k m
 |none=>none
def vB:Nat->List (Option ae)->ae->Option (List (Option ae))
 |0,l,v=>match l with |some _::t=>some (some v::t)|_=>none
 |1,l,v=>match l with |a::some _::t=>some (a::some v::t)|_=>none
 |2,l,v=>match l with |a::b::some _::t=>some (a::b::some v::t)|_=>none
 |3,l,v=>match l with |a::b::c::some _::t=>some (a::b::c::some v::t)|_=>none
 |4,l,v=>match l with |a::b::c::d::some _::t=>some (a::b::c::d::some v::t)|_=>none
 |5,l,v=>match l with |a::b::c::d::e::some _::t=>some (a::b::c::d::e::some v::t)|_=>none
 |6,l,v=>match l with |a::b::c::d::e::f::some _::t=>some (a::b::c::d::e::f::some v::t)|_=>none
 |7,l,v=>match l with |a::b::c::d::e::f::g::some _::t=>some (a::b::c::d::e::f::g::some v::t)|_=>none
 |n+8,l,v=>match l with
  |a::b::c::d::e::f::g::h::t=>match vB n t v with
   |some t'=>some (a::b::c::d::e::f::g::h::t')
   |none=>none
  |_=>none
def P1 (m:Mem)(b o:Nat):Bool:=
 match Nat.ble m.floor b,m.bB with
 |true,[]=>Nat.ble m.base b
 |_,_=>m.cP b o 1
def Bs (m:Mem)(b o:Nat)(v:ae)(k:Mem->Rs):Rs:=
 match m.blk b with
 |⟨1,sz,cs,es,c,str,pos,_⟩=>if P1 m b o then
   match vB o cs v with
   |some gL=>k {m with heap:=m.heap.put b ⟨1,sz,gL,es,c,str,pos,m.tick⟩,tick:=Nat.succ m.tick}
   |none=>none
  else none
 |_=>none
def mH (v:ae):Bool:=
 match v with
 | .agg _=>false
 | .tuple _=>false
 |_=>true
def AP (n:Nat)(p x:kA):lM:=fun _ tm m df k=>AB (p tm) fun b o=>match x tm with
  | .agg cs=>if Nat.beq n cs.size then agR (m.dD b o cs.toList) fun m'=>k undef m' df else none
  |v=>if Nat.beq n 1 then(if mH v then Bs m b o v fun m'=>k undef m' df else none)else none
def Bq (P:aD)(o:im)(t:aM)(p x:kA):Option lM:=
 match dV P t with
 |some n=>some (AP n p x)
 |none=>some (jr P o)
def MP (d:Nat)(p:kA):lM:=fun _ tm m df k=>AB (p tm) fun b o=>k (ptrTo b (Nat.add o d)) m df
def pI (P:aD)(o:im)(s:aM)(p:kA)(f:Nat):Option lM:=
 match P.underlying s with
 |some (.struct fields)=>match fields[f]? with
  |some fd=>match dV P fd.type with
   |some (_+1)=>some (MP fd.offset p)
   |_=>some (jr P o)
  |none=>some (jr P o)
 |_=>some (jr P o)
def PW (v:ae)(len:Nat)(k:Nat->Rs):Rs:=
 match v with
 | .int _ (.ofNat n)=>if Nat.blt n len then k n else none
 |_=>none
def GL (s:Nat)(x i:kA):lM:=fun _ tm m df k=>match x tm with
 | .slice (some ⟨b,o,none⟩) len _=>PW (i tm) len fun n=>k (ptrTo b (Nat.add o (Nat.mul n s))) m df
 |_=>none
def GN (len s:Nat)(x i:kA):lM:=fun _ tm m df k=>AB (x tm) fun b o=>PW (i tm) len fun n=>k (ptrTo b (Nat.add o (Nat.mul n s))) m df
def pB (P:aD)(o:im)(t:aM)(x i:kA):Option lM:=
 match P.underlying t with
 |some (.slice e)=>match dV P e with
  |some s=>some (GL s x i)
  |none=>some (jr P o)
 |some (.array len e)=>match dV P e with
  |some s=>some (GN len s x i)
  |none=>some (jr P o)
 |_=>some (jr P o)
def sr:List UInt8->Nat->Option UInt8
 | [],_=>none
 |b::_,0=>some b
 |_::l,i+1=>sr l i
def WB (x i:kA):lM:=fun _ tm m df k=>match x tm with
  | .string s=>match i tm with
   | .int _ (.ofNat n)=>match sr s.data.toList n with
    |some b=>k (.int .u8 (.ofNat b.toNat)) m df
    |none=>none
   |_=>none
  |_=>none
def B9 (P:aD)(o:im)(t:aM)(x i:kA):Option lM:=
 match P.underlying t with
 |some .string=>some (WB x i)
 |_=>some (jr P o)
def LK (x:kA):lM:=fun _ tm m df k=>match x tm with
  | .string s=>k (.int .i64 (.ofNat s.size)) m df
  |_=>none
def U0 (x:kA):lM:=fun _ tm m df k=>match x tm with
  | .slice _ n _=>k (.int .i64 (.ofNat n)) m df
  |_=>none
def U1 (P:aD)(o:im)(t:aM)(x:kA):Option lM:=
 match P.underlying t with
 |some .string=>some (LK x)
 |some (.slice _)=>some (U0 x)
 |_=>some (jr P o)
def xN (x:kA)(i:Nat):lM:=fun _ tm m df k=>
 match x tm with
 | .tuple vs=>match vs.toList[i]? with
  |some v=>k v m df
  |none=>none
 |_=>none
def Lz (P:aD)(o:im)(od:Bool)(x y:kA):lM:=fun call tm m df k=>
 match x tm with
 | .int a i=>match y tm with
  | .int b j=>k (.int a (if eX j i then(if od then i else j)else(if od then j else i))) m df
  |_=>none
 |_=>jr P o call tm m df k
def X8 (x:kA):lM:=fun _ tm m df k=>
 match x tm with
 | .bool b=>k (.bool (!b)) m df
 |_=>none
def Tl (P:aD)(o:im)(x:kA):lM:=fun call tm m df k=>
 match x tm with
 | .pointer (some a)=>k (.pointer (some a)) m df
 |_=>jr P o call tm m df k
def WI (cs:List (Option ae))(m:Mem)(df:Df)(k:Kv):Rs:=
 k (ptrTo m.next 0) {m with heap:=m.heap.put m.next ⟨1,0,cs,#[],0,.empty,1,m.tick⟩,tick:=Nat.succ m.tick,next:=Nat.succ m.next} df
def WJ (cs:List (Option ae)):lM:=fun _ tm m df k=>WI cs m df k
def aiy (x:kA):lM:=fun _ tm m df k=>WI ((x tm).cells.toList.map some) m df k
def hZ (P:aD)(o:im):Option lM:=
 match o.op with
 | .move x=>eF x fun x=>some (Tv x)
 | .assign x=>eF x fun x=>some (Tv x)
 | .pick c x y=>eF c fun c=>eF x fun x=>eF y fun y=>some (Ix c x y)
 | .binOp op t x y _=>eF x fun x=>eF y fun y=>WG P o op t x y
 | .load t x=>eF x fun x=>IW P o t x
 | .store t p x=>eF p fun p=>eF x fun x=>Bq P o t p x
 | .fieldAddr s p f=>eF p fun p=>pI P o s p f
 | .indexAddr t x i=>eF x fun x=>eF i fun i=>pB P o t x i
 | .index t x i=>eF x fun x=>eF i fun i=>B9 P o t x i
 | .extract x i=>eF x fun x=>some (xN x i)
 | .unOp .not _ x=>eF x fun x=>some (X8 x)
 | .nilCheck x=>eF x fun x=>some (Tl P o x)
 | .alloc e=>match gO P e with
  |some z=>some (WJ (z.cells.toList.map some))
  |none=>none
 | .box _ x=>eF x fun x=>some (aiy x)
 | .call {callee:= .builtin .min,args,.. }=>match args.toList with
  | [x,y]=>eF x fun x=>eF y fun y=>some (Lz P o false x y)
  |_=>some (jr P o)
 | .call {callee:= .builtin .max,args,.. }=>match args.toList with
  | [x,y]=>eF x fun x=>eF y fun y=>some (Lz P o true x y)
  |_=>some (jr P o)
 | .call {callee:= .value (.func f),args,.. }=>sJ args.toList fun xs=>some (Ww f xs)
 | .call {callee:= .value x,args,.. }=>eF x fun x=>sJ args.toList fun xs=>some (JY x xs)
 | .call {callee:= .invoke r name,args,.. }=>eF r fun r=>sJ args.toList fun xs=>some (OU P r name xs)
 | .call {callee:= .builtin .len,args,argTypes}=>match args.toList,argTypes.toList with
  | [x],t::_=>eF x fun x=>U1 P o t x
  |_,_=>some (jr P o)
 | .defer {callee:= .value x,args,.. }=>eF x fun x=>sJ args.toList fun xs=>some (Hh x xs)
 |_=>some (jr P o)
def XY (p:Put)(rest:iC)(call:bJ)(tm:Tm):Kv:=fun v m df=>rest call (p v tm) m df
def noK (rest:iC)(call:bJ)(tm:Tm):Kv:=fun v m df=>rest call tm m df
def Nf (p:Put)(op:lM)(rest:iC):iC:=fun call tm m df=>op call tm m df (XY p rest call tm)
def H6 (op:lM)(rest:iC):iC:=fun call tm m df=>op call tm m df (noK rest call tm)
def G6 (g:kA)(want:Bool)(p:Put)(op:lM)(rest:iC):iC:=fun call tm m df=>
 match g tm with
 | .bool true=>if want then op call tm m df (XY p rest call tm)else rest call (p undef tm) m df
 | .bool false=>if want then rest call (p undef tm) m df else op call tm m df (XY p rest call tm)
 |_=>rest call (p undef tm) m df
def G5 (g:kA)(want:Bool)(op:lM)(rest:iC):iC:=fun call tm m df=>
 match g tm with
 | .bool true=>if want then op call tm m df (noK rest call tm)else rest call tm m df
 | .bool false=>if want then rest call tm m df else op call tm m df (noK rest call tm)
 |_=>rest call tm m df
def Ze:iC:=fun _ tm m df=>some ⟨tm,m,df⟩
def SZ (P:aD)(nt:Nat)(ops:Array im)(i:Nat)(rest:iC):Option iC:=
 match ops[i]? with
 |none=>none
 |some o=>if o.op.operands.toList.all (rA nt P.globals.size)then
  match hZ P o with
  |none=>none
  |some op=>match o.guard with
   |none=>match o.dst with
    |some d=>FT d fun _ p=>some (Nf p op rest)
    |none=>some (H6 op rest)
   |some (j,want)=>match(ops[j]?).bind (·.dst)with
    |some g=>if Nat.blt g nt then FT g fun gx _=>match o.dst with
     |some d=>FT d fun _ p=>some (G6 gx want p op rest)
     |none=>some (G5 gx want op rest)
     else none
    |none=>none
  else none
def mZ (v:ae):Option Nat:=
 match v with
 | .pointer (some a)=>some a.block
 | .slice (some a) _ _=>some a.block
 | .map (some r)=>some r
 |_=>none
def mE (o:im):Option cd:=
 match o.op with
 | .load _ x=>some x
 | .lookup _ x _ _=>some x
 | .slice _ x _ _ _=>some x
 |_=>o.dst.map .tmp
def cM (ops:Array im)(o:im)(tm:Tm):Bool:=
 match o.guard with
 |none=>true
 |some (j,want)=>match(ops[j]?).bind (·.dst)with
  |some g=>match cV g tm with
   | .bool b=>b==want
   |_=>false
  |none=>false
def jo (m:Mem)(v:ae):ae:=
 match mZ v with
 |some b=> .int .i64 (.ofNat (m.blk b).a9)
 |none=> .nilFunc
def So (ops:Array im)(o:im)(x:cd)(slot:Nat)(rest:iC):iC:=fun call tm m df=>
 rest call (tn slot (if cM ops o tm then jo m (dj tm x)else undef) tm) m df
def w6 (a b:ae):Bool:=
 match a,b with
 | .int _ (.ofNat i),.int _ (.ofNat j)=>Nat.beq i j
 | .nilFunc,.nilFunc=>true
 |_,_=>false
def looks (o:im):Bool:=
 match o.op with
 | .load .. =>true
 | .lookup .. =>true
 | .slice .. =>true
 |_=>false
def sj (P:aD)(ops:Array im)(o:im)(x:cd)(slot:Nat)(rest:iC):iC:=fun call tm m df=>
 if cM ops o tm then
  if w6 (cV slot tm) (jo m (dj tm x))&&(if looks o then(dp P (dj tm) o m).isSome else match mZ (dj tm x)with |some b=>Nat.ble m.floor b|none=>true)then rest call tm m df else none
 else rest call tm m df
abbrev nj:=Nat×Nat×Nat
def Ny (f:iC):iC:=fun call tm m df=>match m.pend with
 | []=>f call tm m df
 |_=>none
def zB (P:aD)(nt:Nat)(ops:Array im)(t:nj)(rest:iC):Option iC:=
 match t with
 |(0,i,slot)=>match SZ P nt ops i rest with
  |some f=>some (match slot with |0=>f|_=>Ny f)
  |none=>none
 |(1,i,slot)=>match ops[i]? with
  |some o=>match mE o with
   |some x=>if rA nt P.globals.size x&&Nat.ble nt slot&&Nat.blt slot 512 then some (So ops o x slot rest)else none
   |none=>none
  |none=>none
 |(_,i,slot)=>match ops[i]? with
  |some o=>match mE o with
   |some x=>some (sj P ops o x slot rest)
   |none=>none
  |none=>none
def ir (P:aD)(nt:Nat)(ops:Array im):List nj->Option iC
 | []=>some Ze
 |t::l=>match ir P nt ops l with
  |some rest=>zB P nt ops t rest
  |none=>none
def oF (a b:F):F:=fun call st=>
 match a call st with
 |some (.normal,jR)=>b call jR
 |r=>r
def wY:F:=fun _ st=>some (.normal,st)
def Wq (x:kA)(a b:F):F:=fun call st=>
 match x st.tm with
 | .bool true=>a call st
 | .bool false=>b call st
 |_=>none
def Ht (id:Nat)(a:F):F:=fun call st=>
 match a call st with
 |some (.exit j,jR)=>if Nat.beq j id then some (.normal,jR)else some (.exit j,jR)
 |r=>r
def xo (a:F)(call:bJ):Nat->Ss->Option (Exit×Ss)
 |0,_=>none
 |n+1,st=>match a call st with
  |some (.normal,jR)=>xo a call n jR
  |r=>r
def aaj (a:F):F:=fun call st=>xo a call 100000 st
def Fg (e:Exit):F:=fun _ st=>some (e,st)
def PC (o:iC):F:=fun call st=>
 match o call st.tm st.mem st.df with
 |some jR=>some (.normal,jR)
 |none=>none
def yF (has:Nat->Bool)(rest:Nat->Option F)(call:bJ):Nat->F->Ss->Option (Exit×Ss)
 |0,_,_=>none
 |n+1,a,st=>match a call st with
  |some (.goto l,jR)=>if has l then match rest l with
   |some b=>yF has rest call n b jR
   |none=>none
   else some (.goto l,jR)
  |r=>r
def g9 (ops:Array im)(bH:Array Nat)(hs:List Nat)(i:Nat):Bool:=
 Nat.blt (cK bH hs i) (q0 bH hs i)&&((ops[i]?).any fun o=>match o.op with
  | .load .. | .lookup .. | .slice .. | .alloc _| .box .. | .buildSlice .. | .makeSlice .. | .makeMap .. =>true
  |_=>false)
def Gi (ops:Array im)(bH:Array Nat)(nt:Nat):Bool:=
 (List.range ops.size).all fun i=>match ops[i]? with
  |some o=>o.after.toList.all (fun e=>!Region.binds .any e||Nat.blt e.on i)&&Nat.beq (o.after.toList.foldl (fun s e=>if Region.binds .any e then s|||2^e.on|||bH.getD e.on 0 else s) 0) (bH.getD i 0)&&(match o.dst with |some d=>Nat.blt d nt|none=>true)
  |none=>false
def steady (ops:Array im)(bH:Array Nat)(hs:List Nat):Bool:=
 (List.range ops.size).all fun i=>!g9 ops bH hs i||(match ops[i]? with
  |some o=>(List.range ops.size).all fun j=>match ops[j]? with
   |some y=>(match y.dst with |some d=> !(kF ops o).contains d||(bH.getD i 0).testBit j|none=>true)
   |none=>true
  |none=>false)
def fZ (ops:Array im)(bH:Array Nat)(hs:List Nat)(s:Nat):List Nat:=(List.range ops.size).filter fun i=>(ops[i]?).any fh&&cK bH hs i==s
def FZ (ops:Array im)(bH:Array Nat)(hs:List Nat)(nt s:Nat):List nj:=
 (fZ ops bH hs s).flatMap fun i=>if g9 ops bH hs i then[(0,i,0),(1,i,nt+i)]else[(0,i,0)]
def uR (ops:Array im)(bH:Array Nat)(hs:List Nat)(nt s:Nat):List nj:=
 ((List.range ops.size).filter fun i=>(ops[i]?).any fh&&g9 ops bH hs i&&decide (cK bH hs i<=s)&&decide (s<q0 bH hs i)).map fun i=>(2,i,nt+i)
def nu (ops:Array im)(bH:Array Nat)(hs:List Nat)(nt:Nat):Nat->List Nat->List nj
 |s,[]=>FZ ops bH hs nt s
 |s,h::l=>FZ ops bH hs nt s++(0,h,1)::(uR ops bH hs nt s++nu ops bH hs nt (s+1) l)
def Wi (ops:Array im)(nt:Nat):Option (List nj):=
 let bH:=Region.before ops
 let hs:=aF ops
 if xX bH hs&&tidy ops bH&&Gi ops bH nt&&steady ops bH hs then some (nu ops bH hs nt 0 hs)else none
def comp (P:aD)(nt:Nat):Nat->Code->Option F
 |0,_=>none
 |n+1,c=>match c with
  | .skip=>some wY
  | .label _=>some wY
  | .seq a b=>match comp P nt n a with
   |some a=>match comp P nt n b with
    |some b=>some (oF a b)
    |none=>none
   |none=>none
  | .cond x a b=>if rA nt P.globals.size x then
   match comp P nt n a with
   |some a=>match comp P nt n b with
    |some b=>eF x fun x=>some (Wq x a b)
    |none=>none
   |none=>none
   else none
  | .block id b=>match comp P nt n b with
   |some b=>some (Ht id b)
   |none=>none
  | .loop b=>match comp P nt n b with
   |some b=>some (aaj b)
   |none=>none
  | .exit id=>some (Fg (.exit id))
  | .ret=>some (Fg .ret)
  | .goto l=>some (Fg (.goto l))
  | .scope b=>match comp P nt n b with
   |some f=>some fun call st=>yF (fun l=>(findLabel b l).isSome) (fun l=>(findLabel b l).bind (comp P nt n)) call 1000 f st
   |none=>none
  | .region _ ops draw=>if draw then
    match Wi ops nt with
    |some l=>match ir P nt ops l with
     |some o=>some (PC o)
     |none=>none
    |none=>none
   else match ir P nt ops ((List.range ops.size).map fun i=>(0,i,0))with
   |some o=>some (PC o)
   |none=>none
  |_=>none
def u2 (P:aD)(nt:Nat)(m:Mem)(tm:Tm):List ResultVar->Option (List ae)
 | []=>some []
 | .tmp t::l=>if Nat.blt t nt then
   match u2 P nt m tm l with
   |some vs=>some (cV t tm::vs)
   |none=>none
  else none
 | .cell a t::l=>if Nat.blt a nt then
   match j9 P t (cV a tm) m,u2 P nt m tm l with
   |some v,some vs=>some (v::vs)
   |_,_=>none
  else none
def lR (P:aD)(nt:Nat)(rs:List ResultVar)(tm:Tm)(m:Mem):Option ae:=
 match u2 P nt m tm rs with
 |some [v]=>some v
 |some vs=>some (.tuple vs.toArray)
 |none=>none
def dE (P:aD)(f:Nat):Bool:=(P.funcs[f]?).any (·.body.isSome)
def oP (P:aD)(X:Ext)(call:bJ):Df->Mem->Option Mem
 | [],m=>some m
 |(f,args)::ds,m=>if dE P f&& !(Nat.beq f X.yv||Nat.beq f X.mD)then
   match call f args m with
   |some (_,m')=>oP P X call ds m'
   |none=>none
  else none
def OH (r:Option (Exit×Ss)):Option Ss:=
 match r with
 |some (.normal,st)=>some st
 |some (.ret,st)=>some st
 |_=>none
def ye (P:aD)(X:Ext)(nt:Nat)(rs:List ResultVar)(b:F)(call:bJ)(args:List ae)(m:Mem):Option (ae×Mem):=
 match(if Nat.ble args.length nt then Dw args else none)with
 |none=>none
 |some tm=>
  match OH (b call ⟨tm,m,[]⟩)with
  |none=>none
  |some st=>match oP P X call st.df st.mem with
   |none=>none
   |some m'=>match lR P nt rs st.tm m' with
    |some v=>some (v,m')
    |none=>none
structure Tab where
 body:bJ->List ae->Mem->Option (ae×Mem)
def kE (P:aD)(X:Ext)(f:Nat):Tab:=
 match P.funcs[f]? with
 |some fn=>match fn.body with
  |some c=>match(if Nat.ble fn.ntmps 512 then comp P fn.ntmps 1000 c else none)with
   |some b=>⟨ye P X fn.ntmps fn.results.toList b⟩
   |none=>⟨fun _ _ _=>none⟩
  |none=>⟨fun _ args m=>tZ X f args m⟩
 |none=>⟨fun _ _ _=>none⟩
def gJ (P:aD)(X:Ext):Nat->bJ
 |0=>fun _ _ _=>none
 |n+1=>fun f args m=>(kE P X f).body (gJ P X n) args m
end Go.AM
namespace Go.AM
open Go
theorem yE {α β:Type}{i:Nat}{k:(N8 α->α)->(α->N8 α->N8 α)->Option β}{r:β}(h:Sm i k=some r):
  i<8/\k (fun n=>n.get i) (fun x n=>n.put i x)=some r:=by
 unfold Sm at h
 split at h<;>first |exact⟨aj,h⟩|cases h
theorem jg {β:Type}{t:Nat}{k:kA->Put->Option β}{r:β}(h:FT t k=some r):t<512/\k (cV t) (tn t)=some r:=by
 unfold FT at h;obtain⟨h1,h⟩:=yE h;obtain⟨h2,h⟩:=yE h;obtain⟨h3,h⟩:=yE h;have Rj:t / 64<8:=h1;have e:Nat.div t 64=rO t 64:=by show t / 64=t / 64%8;omega
 rw[e]at h;exact⟨aj,h⟩
theorem oT {t t':Nat}(ht:t<512)(ht':t'<512)(v:ae)(tm:Tm):cV t' (tn t v tm)=if t=t' then v else cV t' tm:=by
 have d (x k:Nat):rO x k=x / k%8:=rfl;have e (x:Nat):Nat.mod x 8=x%8:=rfl;have l (x k:Nat):rO x k<8:=by rw[d];omega
 have l' (x:Nat):Nat.mod x 8<8:=by rw[e];omega
 unfold cV tn;rw[N8.get_put _ _ (l ..) (l ..)]
 by_cases h1:rO t 64=rO t' 64
 ·rw[bK h1,N8.get_put _ _ (l ..) (l ..)]
  by_cases h2:rO t 8=rO t' 8
  ·rw[bK h2,N8.get_put _ _ (l' ..) (l' ..)]
   by_cases h3:Nat.mod t 8=Nat.mod t' 8
   ·rw[bK h3,bK (by simp only[d,e]at h1 h2 h3;omega)]
   ·rw[bZ h3,bZ (by rintro rfl;exact h3 rfl),h1,h2]
  ·rw[bZ h2,bZ (by rintro rfl;exact h2 rfl),h1]
 ·rw[bZ h1,bZ (by rintro rfl;exact h1 rfl)]
theorem aK {α:Type}{x:cd}{k:kA->Option α}{r:α}(h:eF x k=some r):k (fun tm=>dj tm x)=some r:=by
 unfold eF at h
 split at h
 ·exact(jg h).2
 ·exact h
 ·exact h
 ·exact h
theorem fE {α:Type}:∀{xs:List cd}{k:List kA->Option α}{r:α},sJ xs k=some r->∃os,k os=some r/\∀tm,Kw os tm=xs.map (dj tm)
 | [],k,r,h=>⟨[],h,fun _=>rfl⟩
 |x::l,k,r,h=>by
  have h1:=aK h;obtain⟨os,h2,h3⟩:=fE h1;exact⟨_,h2,fun tm=>by simp[Kw,h3]⟩
def Dp (P:aD)(o:im)(ev:cd->ae)(f:Nat)(args:List ae):Prop:=
 (∃x lG ly first cap,o.op= .call {callee:= .value x,args:=lG,argTypes:=ly}/\ev x= .func (.func f) first cap/\args=first.toList++lG.toList.map ev++cap.toList)\/
 (∃r name lG ly recv,o.op= .call {callee:= .invoke r name,args:=lG,argTypes:=ly}/\dN P (ev r) name=some (f,recv)/\args=recv::lG.toList.map ev)
def Pb (o:im)(ev:cd->ae)(f:Nat)(args:List ae):Prop:=
 ∃x lG ly first cap,o.op= .defer {callee:= .value x,args:=lG,argTypes:=ly}/\ev x= .func (.func f) first cap/\args=first.toList++lG.toList.map ev++cap.toList
def zv (P:aD)(call:bJ)(o:im)(tm:Tm)(m:Mem)(df:Df)(v:ae)(m':Mem)(ma:Df):Prop:=
 (dp P (dj tm) o m=some (v,m')/\ma=df)\/
 (∃f args,Dp P o (dj tm) f args/\call f args m=some (v,m')/\ma=df)\/
 (∃f args,Pb o (dj tm) f args/\v=undef/\m'=m/\ma=(f,args)::df)
def dY (P:aD)(o:im)(op:lM):Prop:=
 ∀call tm m df k r,op call tm m df k=some r->∃v m' ma,k v m' ma=some r/\zv P call o tm m df v m' ma
section
variable {P:aD}{o:im}
theorem cB:dY P o (jr P o):=by
 intro call tm m df k r h;unfold jr at h
 split at h
 ·rename_i v m' hv;exact⟨v,m',df,h,.inl ⟨hv,rfl⟩⟩
 ·cases h
theorem wc {aeC:Option (ae×Mem)}{df:Df}{k:Kv}{r:Ss}(h:JZ aeC df k=some r):∃v m',aeC=some (v,m')/\k v m' df=some r:=by
 unfold JZ at h
 split at h
 ·exact⟨_,_,rfl,h⟩
 ·cases h
theorem zV {x:cd}(ho:o.op= .move x\/o.op= .assign x):dY P o (Tv fun tm=>dj tm x):=by
 intro call tm m df k r h;refine⟨_,_,_,h,.inl ⟨?_,rfl⟩⟩;unfold dp;rcases ho with ho|ho<;>rw[ho]
theorem Iw {c x y:cd}(ho:o.op= .pick c x y):dY P o (Ix (fun tm=>dj tm c) (fun tm=>dj tm x) (fun tm=>dj tm y)):=by
 intro call tm m df k r h;unfold Ix at h
 split at h
 ·rename_i hc;refine⟨_,_,_,h,.inl ⟨?_,rfl⟩⟩;unfold dp;rw[ho];simp only[hc,if_true]
 ·rename_i hc;refine⟨_,_,_,h,.inl ⟨?_,rfl⟩⟩;unfold dp;rw[ho];simp only[hc,bO,if_false]
 ·cases h
theorem jz (a b:Nat):Nat.blt a b=decide (a<b):=by rw[Bool.eq_iff_iff];simp[Nat.blt_eq]
theorem yf (a b:Nat):Nat.ble a b=decide (a<=b):=by rw[Bool.eq_iff_iff];simp
theorem J7 (a b:Nat):Nat.beq a b=decide (a=b):=by rw[Bool.eq_iff_iff];simp
theorem eH (i j:Int):eX i j=decide (i<j):=by
 unfold eX
 split<;>(try rw[jz])<;>rw[Bool.eq_iff_iff]<;>simp only[jE,bO,false_iff,true_iff,Int.ofNat_eq_natCast,Int.negSucc_eq]<;>omega
theorem se (i j:Int):cN i j=decide (i=j):=by
 unfold cN
 split
 ·rw[J7,Bool.eq_iff_iff];simp only[jE,Int.ofNat_eq_natCast];omega
 ·rw[J7,Bool.eq_iff_iff];simp only[jE,Int.negSucc_eq];omega
 ·rename_i h1 h2;rw[Bool.eq_iff_iff];simp only[bO,jE,false_iff];rintro rfl;cases i with
  |ofNat a=>exact h1 a a rfl rfl
  |negSucc a=>exact h2 a a rfl rfl
theorem tJ {a b:bX}(h:Nat.beq (xg a) (xg b)=true):a=b:=by
 cases a<;>cases b<;>first |rfl|(exfalso;revert h;decide)
theorem mB {k:bX}{n:Nat}(h:Nat.blt n (iI k)=true):k.wrap n=n:=by
 rw[jz,jE]at h;cases k<;>simp only[iI]at h<;>simp[bX.wrap,bX.bits,bX.signed]<;>omega
theorem VW (k:bX):iI k<=2^k.bits:=by cases k<;>decide
theorem iT {α β:Type}{f:α->Sem β}:∀{x:Sem α}{a:α},x.aI P=some a->(x>>=f).aI P=(f a).aI P:=by
 intro x
 show∀{a:α},x.aI P=some a->(x.bind f).aI P=(f a).aI P
 induction x with
 |pure a=>intro b h;simp only[Sem.aI,ah]at h;subst h;rfl
 |program k ih=>intro b h;exact ih P h
 |_=>intro b h;simp[Sem.aI]at h
theorem cS {t:aM}{d:TypeDesc}(h:P.underlying t=some d):(underlying t).aI P=some d:=by
 unfold underlying;rw[iT (a:=P) rfl,h];rfl
theorem ix {ev:cd->ae}(h1:o.op.operands.all (fun x=>plain (ev x))=true){v:ae}(h2:(execOp ev o).aI P=some (.value v))(h3:plain v=true):cX P ev o=some v:=by
 unfold cX;rw[bK h1,h2];simp only[h3,if_true]
theorem qE {ev:cd->ae}{op:BinOp}{t u:aM}{x y:cd}(ho:o.op= .binOp op t x y u){a b:bX}{i j:Int}(hx:ev x= .int a i)(hy:ev y= .int b j){v:ae}
  (h:(binOp op t (.int a i) (.int b j)).aI P=some v)(hv:plain v=true):cX P ev o=some v:=by
 refine ix ?_ ?_ hv
 ·rw[ho];simp[Op.operands,hx,hy,plain,cG]
 ·unfold execOp;rw[ho];simp only[hx,hy];have e:eqGuard op t x y (.int a i) (.int b j)=pure ():=by
   unfold eqGuard
   split<;>rfl
  rw[e];simp only[pure_bind];generalize binOp op t (.int a i) (.int b j)=s at h
  show Sem.aI P (s.bind fun v=>Sem.pure (Next.value v))=_
  have key:∀s:Sem ae,s.aI P=some v->Sem.aI P (s.bind fun v=>Sem.pure (Next.value v))=some (Next.value v):=by
   intro s
   induction s with
   |pure a=>intro h;simp only[Sem.aI,ah]at h;subst h;rfl
   |program k ih=>intro h;exact ih P h
   |_=>intro h;simp[Sem.aI]at h
  exact key s h
theorem AT {ev:cd->ae}{op:BinOp}{t u:aM}{x y:cd}(ho:o.op= .binOp op t x y u){a b:bX}{i j:Int}(hx:ev x= .int a i)(hy:ev y= .int b j){v:ae}(hp:cX P ev o=some v){m:Mem}:dp P ev o m=some (v,m):=by
 unfold dp;rw[ho];simp only[];have e:∀c d,rC P t c d (ev x) (ev y)=none:=by
  intro c d;rw[hx,hy];unfold rC
  split<;>first |rfl|(rename_i h;cases h)
 split
 ·rw[e,hp];rfl
 ·rw[e,hp];rfl
 ·rw[hp];rfl
theorem zv.of{call:bJ}{tm:Tm}{m m':Mem}{df:Df}{v:ae}(h:dp P (dj tm) o m=some (v,m')):zv P call o tm m df v m' df:= .inl ⟨h,rfl⟩
variable {x y:cd}
abbrev ex (x:cd):kA:=fun tm=>dj tm x
theorem mX {op:BinOp}{t u:aM}(ho:o.op= .binOp op t x y u){f:Int->Int->Bool}(hf:∀k i j,(binOp op t (.int k i) (.int k j)).aI P=some (.bool (f i j))):dY P o (Eb f (ex x) (ex y)):=by
 intro call tm m df k r h;unfold Eb at h
 split at h
 ·rename_i a i hx
  split at h
  ·rename_i b j hy
   split at h
   ·rename_i hk;obtain rfl:=tJ hk;exact⟨_,_,_,h,.of (AT ho hx hy (qE ho hx hy (hf _ _ _) rfl))⟩
   ·cases h
  ·cases h
 ·cases h
theorem zu {op:BinOp}{t u:aM}(ho:o.op= .binOp op t x y u){f:Int->Int->Int}{q:Int->Int->Option Nat}(hq:∀i j n,q i j=some n->f i j=n)
  (hf:∀k i j,(binOp op t (.int k i) (.int k j)).aI P=some (.int k (k.wrap (f i j)))):dY P o (arF q f (ex x) (ex y)):=by
 intro call tm m df k r h;unfold arF at h
 split at h
 ·rename_i a i hx
  split at h
  ·rename_i b j hy
   split at h
   ·rename_i hk;obtain rfl:=tJ hk;have key:=AT (m:=m) ho hx hy (qE ho hx hy (hf _ _ _) rfl)
    split at h
    ·rename_i n hn
     split at h
     ·rename_i hs;refine⟨_,_,_,h,.of ?_⟩;rw[key,hq _ _ _ hn,mB hs];rfl
     ·exact⟨_,_,_,h,.of key⟩
    ·exact⟨_,_,_,h,.of key⟩
   ·cases h
  ·cases h
 ·cases h
theorem C9 {k:bX}{i:Nat}(h:Nat.blt i (iI k)=true):(BitVec.ofInt k.bits i).toNat=i:=by
 rw[jz,jE]at h;have :=VW k;simp only[BitVec.toNat_ofInt];have h2:(i:Int)%((2^k.bits:Nat):Int)=i:=Int.emod_eq_of_lt aj aj;rw[h2];simp
theorem VV (k:bX):∃n,iI k=2^n:=by
 cases k
 ·exact⟨7,rfl⟩
 ·exact⟨15,rfl⟩
 ·exact⟨31,rfl⟩
 ·exact⟨63,rfl⟩
 ·exact⟨8,rfl⟩
 ·exact⟨16,rfl⟩
 ·exact⟨32,rfl⟩
 ·exact⟨64,rfl⟩
theorem uo {op:BinOp}{t u:aM}(ho:o.op= .binOp op t x y u){q:Nat->Nat->Nat}(hq:∀n i j,i<2^n->j<2^n->q i j<2^n)
  (hf:∀(k:bX) (i j:Nat),(BitVec.ofInt k.bits (i:Int)).toNat=i->(BitVec.ofInt k.bits (j:Int)).toNat=j->(binOp op t (.int k i) (.int k j)).aI P=some (.int k (k.wrap ((q i j:Nat):Int)))):dY P o (Ap P o q (ex x) (ex y)):=by
 intro call tm m df k r h;unfold Ap at h
 split at h
 ·rename_i a i hx
  split at h
  ·rename_i b j hy
   split at h
   ·rename_i hk;simp only[ag]at hk;obtain⟨⟨hk,hi⟩,hj⟩:=hk;obtain rfl:=tJ hk;refine⟨_,_,_,h,.of ?_⟩;rw[AT ho hx hy (qE ho hx hy (hf a i j (C9 hi) (C9 hj)) rfl)];obtain⟨n,hn⟩:=VV a;have :Nat.blt (q i j) (iI a)=true:=by
     rw[jz,jE]at hi hj⊢;rw[hn]at hi hj⊢;exact hq n i j hi hj
    rw[mB this];rfl
   ·exact cB call tm m df k r h
  ·cases h
 ·exact cB call tm m df k r h
theorem CA {op:BinOp}{t u:aM}(ho:o.op= .binOp op t x y u){q:Nat->Nat->Nat}(hq:∀i j,q i j<=i)
  (hf:∀(k:bX) (i j:Nat),Nat.blt i (iI k)=true->(binOp op t (.int k i) (.int k ((j+1:Nat):Int))).aI P=some (.int k ((q i (j+1):Nat):Int))):dY P o (Hc P o q (ex x) (ex y)):=by
 intro call tm m df k r h;unfold Hc at h
 split at h
 ·rename_i a i hx
  split at h
  ·rename_i b j hy
   split at h
   ·rename_i hk;simp only[ag]at hk;obtain⟨hk,hi⟩:=hk;obtain rfl:=tJ hk;exact⟨_,_,_,h,.of (AT ho hx hy (qE ho hx hy (hf a i j hi) rfl))⟩
   ·exact cB call tm m df k r h
  ·exact cB call tm m df k r h
 ·exact cB call tm m df k r h
theorem Bn {ev:cd->ae}{op:BinOp}{t u:aM}(ho:o.op= .binOp op t x y u){a b:ByteArray}(hx:ev x= .string a)(hy:ev y= .string b){v:ae}
  (h:(Op.stringOp op a b).aI P=some v)(hv:plain v=true){m:Mem}(di:op≠ .shl/\op≠ .shr):dp P ev o m=some (v,m):=by
 have hp:cX P ev o=some v:=by
  refine ix ?_ ?_ hv
  ·rw[ho];simp[Op.operands,hx,hy,plain,cG]
  ·unfold execOp;rw[ho];simp only[hx,hy];have e:eqGuard op t x y (.string a) (.string b)=pure ():=by
    unfold eqGuard
    split<;>rfl
   have e2:binOp op t (.string a) (.string b)=Op.stringOp op a b:=by cases op<;>rfl
   rw[e,e2];simp only[pure_bind];generalize Op.stringOp op a b=s at h
   show Sem.aI P (s.bind fun v=>Sem.pure (Next.value v))=_
   have key:∀s:Sem ae,s.aI P=some v->Sem.aI P (s.bind fun v=>Sem.pure (Next.value v))=some (Next.value v):=by
    intro s
    induction s with
    |pure a=>intro h;simp only[Sem.aI,ah]at h;subst h;rfl
    |program k ih=>intro h;exact ih P h
    |_=>intro h;simp[Sem.aI]at h
   exact key s h
 unfold dp;rw[ho];simp only[];have e:∀c d,rC P t c d (ev x) (ev y)=none:=by
  intro c d;rw[hx,hy];unfold rC
  split<;>first |rfl|(rename_i h;cases h)
 split
 ·rw[e,hp];rfl
 ·rw[e,hp];rfl
 ·rw[hp];rfl
theorem wW {want:Bool}{t u:aM}(ho:o.op= .binOp (if want then .eql else .neq) t x y u):dY P o (yB want (ex x) (ex y)):=by
 intro call tm m df k r h;unfold yB at h
 split at h
 ·rename_i a hx
  split at h
  ·rename_i b hy;refine⟨_,_,_,h,.of (Bn ho hx hy ?_ rfl ?_)⟩
   ·cases want with
    |true=>simp[Op.stringOp,pure,Sem.aI]
    |false=>simp[Op.stringOp,pure,Sem.aI]
   ·cases want<;>simp
  ·cases h
 ·cases h
theorem MA {t u:aM}(ho:o.op= .binOp .add t x y u):dY P o (QA (ex x) (ex y)):=by
 intro call tm m df k r h;unfold QA at h
 split at h
 ·rename_i a hx
  split at h
  ·rename_i b hy
   split at h
   ·rename_i hs;rw[jz,jE]at hs;refine⟨_,_,_,h,.of (Bn ho hx hy ?_ rfl cY)⟩;unfold Op.stringOp;simp only[];rw[bZ (by simp only[bX.max,bX.signed,bX.bits];simp;omega)];rfl
   ·cases h
  ·cases h
 ·cases h
theorem MJ {op:BinOp}{t u:aM}(ho:o.op= .binOp op t x y u){f:lM}(h:WG P o op t (ex x) (ex y)=some f):dY P o f:=by
 unfold WG at h
 split at h
 ·split at h
  ·cases h;exact mX ho fun k i j=>by simp[binOp,Op.intCmp,pure,Sem.aI,eH]
  ·cases h;exact mX ho fun k i j=>by simp[binOp,Op.intCmp,pure,Sem.aI,GH,eH];rw[Bool.eq_iff_iff];simp
  ·cases h;exact mX ho fun k i j=>by simp[binOp,Op.intCmp,pure,Sem.aI,sV,eH]
  ·cases h;exact mX ho fun k i j=>by simp[binOp,Op.intCmp,pure,Sem.aI,xJ,eH];rw[Bool.eq_iff_iff];simp
  ·cases h;exact mX ho fun k i j=>by simp[binOp,Op.intCmp,pure,Sem.aI,se];rw[Bool.eq_iff_iff];simp
  ·cases h;exact mX ho fun k i j=>by simp[binOp,Op.intCmp,pure,Sem.aI,sT,se];rw[Bool.eq_iff_iff];simp
  ·cases h;refine zu ho (fun i j n hn=>?_) fun k i j=>by simp[binOp,Op.intArith,pure,Sem.aI]
   unfold uw at hn
   split at hn
   ·cases hn;rfl
   ·cases hn
  ·cases h;refine zu ho (fun i j n hn=>?_) fun k i j=>by simp[binOp,Op.intArith,pure,Sem.aI];rfl
   unfold vy at hn
   split at hn
   ·rename_i a b
    split at hn
    ·rename_i hb;rw[yf,jE]at hb;cases hn
     show(a:Int)-b=((a-b:Nat):Int)
     omega
    ·cases hn
   ·cases hn
  ·cases h;exact zu ho (fun i j n hn=>by cases hn) fun k i j=>by simp[binOp,Op.intArith,pure,Sem.aI]
  ·cases h;refine uo ho (fun n i j hi hj=>Nat.or_lt_two_pow hi hj) fun k i j hi hj=>?_
   simp only[binOp,ne_eq,not_true_eq_false,if_false,Op.intBits,pure,Sem.aI];rw[BitVec.toNat_or,hi,hj];rfl
  ·cases h;refine uo ho (fun n i j hi hj=>Nat.and_lt_two_pow i hj) fun k i j hi hj=>?_
   simp only[binOp,ne_eq,not_true_eq_false,if_false,Op.intBits,pure,Sem.aI];rw[BitVec.toNat_and,hi,hj];rfl
  ·cases h;refine uo ho (fun n i j hi hj=>Nat.xor_lt_two_pow hi hj) fun k i j hi hj=>?_
   simp only[binOp,ne_eq,not_true_eq_false,if_false,Op.intBits,pure,Sem.aI];rw[BitVec.toNat_xor,hi,hj];rfl
  ·cases h;refine CA ho (fun i j=>Nat.div_le_self i j) fun k i j hi=>?_
   simp only[binOp,ne_eq,not_true_eq_false,if_false,Op.intDiv,pure];rw[bZ aj];simp only[Sem.aI];have e:(i:Int).tdiv (j+1:Nat)=((Nat.div i (j+1):Nat):Int):=rfl;rw[e,mB];rw[jz,jE]at hi⊢;exact Nat.lt_of_le_of_lt (Nat.div_le_self i _) hi
  ·cases h;refine CA ho (fun i j=>Nat.mod_le i j) fun k i j hi=>?_
   simp only[binOp,ne_eq,not_true_eq_false,if_false,Op.intDiv,pure];rw[bZ aj];rfl
  ·cases h;exact cB
 ·split at h
  ·cases h;exact wW (want:=true) ho
  ·cases h;exact wW (want:=false) ho
  ·cases h;exact MA ho
  ·cases h;exact cB
 ·cases h;exact cB
theorem re {v:ae}{k:Nat->Nat->Rs}{r:Ss}(h:AB v k=some r):∃b o,v= .pointer (some ⟨b,o,none⟩)/\k b o=some r:=by
 unfold AB at h
 split at h
 ·exact⟨_,_,rfl,h⟩
 ·cases h
theorem xQ {α:Type}:∀(n:Nat) (l:List α),JE n l=l.drop n
 |0,l=>rfl
 |1,l=>by cases l<;>rfl
 |2,l=>by rcases l with _|⟨_,_|⟨_,l⟩⟩<;>rfl
 |3,l=>by rcases l with _|⟨_,_|⟨_,_|⟨_,l⟩⟩⟩<;>rfl
 |4,l=>by rcases l with _|⟨_,_|⟨_,_|⟨_,_|⟨_,l⟩⟩⟩⟩<;>rfl
 |5,l=>by rcases l with _|⟨_,_|⟨_,_|⟨_,_|⟨_,_|⟨_,l⟩⟩⟩⟩⟩<;>rfl
 |6,l=>by rcases l with _|⟨_,_|⟨_,_|⟨_,_|⟨_,_|⟨_,_|⟨_,l⟩⟩⟩⟩⟩⟩<;>rfl
 |7,l=>by rcases l with _|⟨_,_|⟨_,_|⟨_,_|⟨_,_|⟨_,_|⟨_,_|⟨_,l⟩⟩⟩⟩⟩⟩⟩<;>rfl
 |n+8,l=>by
  rcases l with _|⟨_,_|⟨_,_|⟨_,_|⟨_,_|⟨_,_|⟨_,_|⟨_,_|⟨_,l⟩⟩⟩⟩⟩⟩⟩⟩<;>simp only[JE]
  all_goals first |exact xQ n l|simp
theorem Cm (m:Mem)(b o n:Nat):Ot m b o n=!meets m.bB b o n:=by
 unfold Ot
 split
 ·rename_i h;rw[h];rfl
 ·rfl
theorem LH {m:Mem}{b o:Nat}{k:ae->Rs}{r:Ss}(h:z0 m b o k=some r):∃v,m.dv b o 1=some [v]/\k v=some r:=by
 unfold z0 at h
 split at h
 ·rename_i sz cs es c str pos st hb
  split at h
  ·rename_i hh;rw[Cm]at hh;rw[xQ]at h
   split at h
   ·rename_i v t hd;refine⟨v,?_,h⟩;unfold Mem.dv;simp only[hb,hh,hd];simp[fY]
   ·cases h
  ·cases h
 ·cases h
theorem IU {t:aM}(ho:o.op= .load t x){f:lM}(h:IW P o t (ex x)=some f):dY P o f:=by
 unfold IW at h
 split at h
 ·rename_i ha
  split at h
  ·rename_i n hn;cases h;intro call tm m df k r h;unfold LD at h;obtain⟨b,q,hx,h⟩:=re h;unfold ad0 at h
   split at h
   ·rename_i l hl;refine⟨_,_,_,h,.of ?_⟩;unfold dp;rw[ho];simp only[hx,j9,ha,hn,aX,hl,cT]
   ·cases h
  ·cases h;exact cB
 ·rename_i ha;cases h;intro call tm m df k r h;unfold LG at h;obtain⟨b,q,hx,h⟩:=re h;obtain⟨v,hv,h⟩:=LH h;refine⟨_,_,_,h,.of ?_⟩;unfold dp;rw[ho];simp only[hx,j9,ha,hv,aX,List.head?_cons,cT]
 ·cases h;exact cB
theorem AQ:∀(n:Nat) (l:List (Option ae)) (v:ae) (l':List (Option ae)),vB n l v=some l'->eB l n [v]=some l'
 |0,l,v,l',h=>by
  unfold vB at h
  split at h
  ·cases h;simp[eB]
  ·cases h
 |1,l,v,l',h=>by
  unfold vB at h
  split at h
  ·cases h;simp[eB]
  ·cases h
 |2,l,v,l',h=>by
  unfold vB at h
  split at h
  ·cases h;simp[eB]
  ·cases h
 |3,l,v,l',h=>by
  unfold vB at h
  split at h
  ·cases h;simp[eB]
  ·cases h
 |4,l,v,l',h=>by
  unfold vB at h
  split at h
  ·cases h;simp[eB]
  ·cases h
 |5,l,v,l',h=>by
  unfold vB at h
  split at h
  ·cases h;simp[eB]
  ·cases h
 |6,l,v,l',h=>by
  unfold vB at h
  split at h
  ·cases h;simp[eB]
  ·cases h
 |7,l,v,l',h=>by
  unfold vB at h
  split at h
  ·cases h;simp[eB]
  ·cases h
 |n+8,l,v,l',h=>by
  unfold vB at h
  split at h
  ·split at h
   ·rename_i t' ht;cases h;have :=AQ n _ v t' ht;simp[eB,this]
   ·cases h
  ·cases h
theorem P0 {m:Mem}{b o:Nat}(h:P1 m b o=true):m.cP b o 1=true:=by
 unfold P1 at h
 split at h
 ·rename_i h1 h2;rw[yf,jE]at h h1;unfold Mem.cP;rw[h2];simp[meets,h,h1]
 ·exact h
theorem H4 {m:Mem}{b o:Nat}{v:ae}{k:Mem->Rs}{r:Ss}(hv:v.oneCell'=true)(h:Bs m b o v k=some r):∃m',m.dD b o [v]=some m'/\k m'=some r:=by
 unfold Bs at h
 split at h
 ·rename_i sz cs es c str pos st hb
  split at h
  ·rename_i hm
   split at h
   ·rename_i gL ik;refine⟨_,?_,h⟩;unfold Mem.dD;simp only[hb,List.length_singleton,P0 hm,List.all_cons,hv,List.all_nil,AQ _ _ _ _ ik,cT];rfl
   ·cases h
  ·cases h
 ·cases h
theorem PJ {v:ae}(h:mH v=true):v.oneCell'=true/\v.cells=#[v]:=by
 cases v<;>first |exact⟨rfl,rfl⟩|cases h
theorem FW {t:aM}{p:cd}(ho:o.op= .store t p x){f:lM}(h:Bq P o t (ex p) (ex x)=some f):dY P o f:=by
 unfold Bq at h
 split at h
 ·rename_i n hn;cases h;intro call tm m df k r h;unfold AP at h;obtain⟨b,q,hp,h⟩:=re h
  split at h
  ·rename_i cs hx
   split at h
   ·rename_i hs;rw[J7,jE]at hs;unfold agR at h
    split at h
    ·rename_i m' hm;refine⟨_,_,_,h,.of ?_⟩;unfold dp;rw[ho];simp only[hp,vz,hx];rw[bK (by rw[hn,hs];rfl)]
     show(m.dD b q cs.toList).map _=_
     rw[hm];rfl
    ·cases h
   ·cases h
  ·split at h
   ·rename_i hs
    split at h
    ·rename_i hv;obtain⟨h1,h2⟩:=PJ hv;obtain⟨m',hm,h⟩:=H4 h1 h;refine⟨_,_,_,h,.of ?_⟩;unfold dp;rw[ho];simp only[hp,vz];rw[J7,jE]at hs;rw[h2,bK (by rw[hn,hs];rfl)]
     show(m.dD b q [dj tm x]).map _=_
     rw[hm];rfl
    ·cases h
   ·cases h
 ·cases h;exact cB
theorem zh {st:aM}{p:cd}{f:Nat}(ho:o.op= .fieldAddr st p f){q:lM}(h:pI P o st (ex p) f=some q):dY P o q:=by
 unfold pI at h
 split at h
 ·rename_i fields hu
  split at h
  ·rename_i fd hfd
   split at h
   ·rename_i n hn;cases h;intro call tm m df k r h;unfold MP at h;obtain⟨b,c,hp,h⟩:=re h;refine⟨_,_,_,h,.of ?_⟩;unfold dp;rw[ho];simp only[r9,hu,hp,hfd,hn];rfl
   ·cases h;exact cB
  ·cases h;exact cB
 ·cases h;exact cB
theorem EP {v:ae}{len:Nat}{k:Nat->Rs}{r:Ss}(h:PW v len k=some r):∃ki n,v= .int ki (.ofNat n)/\n<len/\k n=some r:=by
 unfold PW at h
 split at h
 ·split at h
  ·rename_i hb;rw[jz,jE]at hb;exact⟨_,_,rfl,hb,h⟩
  ·cases h
 ·cases h
theorem yX {t:aM}{i:cd}(ho:o.op= .indexAddr t x i){q:lM}(h:pB P o t (ex x) (ex i)=some q):dY P o q:=by
 unfold pB at h
 split at h
 ·rename_i e hu
  split at h
  ·rename_i s hs;cases h;intro call tm m df k r h;unfold GL at h
   split at h
   ·rename_i b c len cap hx;obtain⟨ki,n,hi,cA,h⟩:=EP h;refine⟨_,_,_,h,.of ?_⟩;unfold dp;rw[ho];simp only[pC,hu,hx,hi];rw[bK ⟨cY,by simp;omega⟩,hs];simp only[cT,Int.ofNat_eq_natCast,Int.toNat_natCast];rfl
   ·cases h
  ·cases h;exact cB
 ·rename_i len e hu
  split at h
  ·rename_i s hs;cases h;intro call tm m df k r h;unfold GN at h;obtain⟨b,c,hx,h⟩:=re h;obtain⟨ki,n,hi,cA,h⟩:=EP h;refine⟨_,_,_,h,.of ?_⟩;unfold dp;rw[ho];simp only[pC,hu,hx,hi];rw[bK ⟨cY,by simp;omega⟩,hs];simp only[cT,Int.ofNat_eq_natCast,Int.toNat_natCast];rfl
  ·cases h;exact cB
 ·cases h;exact cB
theorem FA:∀(l:List UInt8) (n:Nat),sr l n=l[n]?
 | [],n=>by simp[sr]
 |b::l,0=>rfl
 |b::l,n+1=>by simp[sr,FA l n]
theorem MD (s:ByteArray)(n:Nat):s[n]?=s.data.toList[n]?:=by
 rw[Array.getElem?_toList]
 by_cases h:n<s.size
 ·rw[getElem?_pos s n h,Array.getElem?_eq_getElem h];rfl
 ·rw[getElem?_neg s n h,Array.getElem?_eq_none (by simpa using h)]
theorem GM {t:aM}{i:cd}(ho:o.op= .index t x i){q:lM}(h:B9 P o t (ex x) (ex i)=some q):dY P o q:=by
 unfold B9 at h
 split at h
 ·rename_i hu;cases h;intro call tm m df k r h;unfold WB at h
  split at h
  ·rename_i s hx
   split at h
   ·rename_i ki n hi
    split at h
    ·rename_i b hb;rw[FA]at hb;refine⟨_,_,_,h,.of ?_⟩;unfold dp;rw[ho];have e1:vM P t (dj tm x) (dj tm i)=none:=by unfold vM;rw[hu]
     have e2:cX P (dj tm) o=some (.int .u8 (.ofNat b.toNat)):=by
      refine ix ?_ ?_ rfl
      ·rw[ho];simp only[Op.operands];simp[show dj tm x= .string s from hx,show dj tm i= .int ki (.ofNat n)from hi,plain,cG]
      ·unfold execOp;rw[ho];simp only[show dj tm x= .string s from hx,show dj tm i= .int ki (.ofNat n)from hi,Instr.index,asIntOf,pure_bind];have mr:s[(Int.ofNat n).toNat]?=some b:=by rw[MD];exact hb
       refine(iT (a:= .int .u8 (.ofNat b.toNat)) ?_).trans rfl;rw[iT (cS hu)];simp only[mr];rw[bK cY];rfl
     simp only[e1,e2];rfl
    ·cases h
   ·cases h
  ·cases h
 ·cases h;exact cB
end
end Go.AM
namespace Go.AM
open Go
section
variable {P:aD}{o:im}{x y:cd}
theorem LL {lG ly:Array _}{t:aM}{l:List aM}(ho:o.op= .call {callee:= .builtin .len,args:=lG,argTypes:=ly})(ha:lG.toList=[x])(ht:ly.toList=t::l){q:lM}(h:U1 P o t (ex x)=some q):dY P o q:=by
 have adq:(ly[0]?:Option aM)=some t:=by rw[<-Array.getElem?_toList,ht];rfl
 unfold U1 at h
 split at h
 ·rename_i hu;cases h;intro call tm m df k r h;unfold LK at h
  split at h
  ·rename_i s hx;refine⟨_,_,_,h,.of ?_⟩;have u5:dj tm x= .string s:=hx;have has:lG=#[x]:=by apply Array.ext';simpa using ha
   have e:cX P (dj tm) o=some (.int .i64 (.ofNat s.size)):=by
    refine ix ?_ ?_ rfl
    ·rw[ho];simp[Op.operands,Call.operands,has,u5,plain,cG]
    ·unfold execOp;rw[ho];simp only[resolve,pure_bind,invoke,builtin];refine(iT (a:= .int .i64 (.ofNat s.size)) ?_).trans rfl;unfold Builtin.len_;simp only[has,adq,List.map_toArray,List.map_cons,List.map_nil,List.getElem?_toArray,List.getElem?_cons_zero,u5];rw[iT (cS hu)];rfl
   unfold dp;rw[ho];simp only[ha,adq,aX,hu,u5,e];rfl
  ·cases h
 ·rename_i et hu;cases h;intro call tm m df k r h;unfold U0 at h
  split at h
  ·rename_i a n c hx;refine⟨_,_,_,h,.of ?_⟩;have u5:dj tm x= .slice a n c:=hx;unfold dp;rw[ho];simp only[ha,adq,aX,hu,u5];rfl
  ·cases h
 ·cases h;exact cB
theorem Cw {i:Nat}(ho:o.op= .extract x i):dY P o (xN (ex x) i):=by
 intro call tm m df k r h;unfold xN at h
 split at h
 ·rename_i vs hx
  split at h
  ·rename_i v hv;refine⟨_,_,_,h,.of ?_⟩;have u5:dj tm x= .tuple vs:=hx;unfold dp;rw[ho];rw[Array.getElem?_toList]at hv;simp only[u5,hv,cT]
  ·cases h
 ·cases h
theorem Lu {t:aM}(ho:o.op= .unOp .not t x):dY P o (X8 (ex x)):=by
 intro call tm m df k r h;unfold X8 at h
 split at h
 ·rename_i b hx;have u5:dj tm x= .bool b:=hx;refine⟨_,_,_,h,.of ?_⟩;have e:cX P (dj tm) o=some (.bool (!b)):=by
   refine ix ?_ ?_ rfl
   ·rw[ho];simp[Op.operands,u5,plain,cG]
   ·unfold execOp;rw[ho];simp only[u5];rfl
  unfold dp;rw[ho];simp only[e,cT]
 ·cases h
theorem Lv (ho:o.op= .nilCheck x):dY P o (Tl P o (ex x)):=by
 intro call tm m df k r h;unfold Tl at h
 split at h
 ·rename_i a hx;have u5:dj tm x= .pointer (some a):=hx;refine⟨_,_,_,h,.of ?_⟩;unfold dp;rw[ho];simp only[u5]
 ·exact cB call tm m df k r h
theorem Hv {e:aM}{z:ae}(ho:o.op= .alloc e)(hz:gO P e=some z):dY P o (WJ (z.cells.toList.map some)):=by
 intro call tm m df k r h;refine⟨_,_,_,h,.of ?_⟩;unfold dp;rw[ho];simp only[hz,cT];rfl
theorem ME {e:aM}(ho:o.op= .box e x):dY P o (aiy (ex x)):=by
 intro call tm m df k r h;refine⟨_,_,_,h,.of ?_⟩;unfold dp;rw[ho];rfl
theorem BR {lG ly:Array _}{od:Bool}(ho:o.op= .call {callee:= .builtin (if od then .max else .min),args:=lG,argTypes:=ly})(ha:lG.toList=[x,y]):dY P o (Lz P o od (ex x) (ex y)):=by
 intro call tm m df k r h;unfold Lz at h
 split at h
 ·rename_i a i hx
  split at h
  ·rename_i b j hy;have u5:dj tm x= .int a i:=hx;have Kn:dj tm y= .int b j:=hy;refine⟨_,_,_,h,.of ?_⟩;have has:lG=#[x,y]:=by apply Array.ext';simpa using ha
   have e:cX P (dj tm) o=some (.int a (if eX j i then(if od then i else j)else(if od then j else i))):=by
    refine ix ?_ ?_ rfl
    ·rw[ho];cases od<;>simp[Op.operands,Call.operands,has,u5,Kn,plain,cG]
    ·unfold execOp;rw[ho];cases od
     ·simp only[bO,if_false,resolve,pure_bind,invoke,builtin,has,List.map_toArray,List.map_cons,List.map_nil,u5,Kn];refine(iT (a:= .int a (if eX j i then j else i)) ?_).trans rfl;rw[eH];simp only[Builtin.min_,List.foldlM,Builtin.min2,pure_bind,jE];rfl
     ·simp only[if_true,resolve,pure_bind,invoke,builtin,has,List.map_toArray,List.map_cons,List.map_nil,u5,Kn];refine(iT (a:= .int a (if eX j i then i else j)) ?_).trans rfl;rw[eH];have hm:(if j>i then j else i)=if j<i then i else j:=by split<;>split<;>omega
      simp only[Builtin.max_,List.foldlM,Builtin.max2,pure_bind,jE,hm];rfl
   unfold dp;rw[ho];cases od
   ·simp only[bO,if_false]at e⊢;rw[e];rfl
   ·simp only[if_true]at e⊢;rw[e];rfl
  ·cases h
 ·exact cB call tm m df k r h
theorem J1 {f:Nat}{lG ly:Array _}{os:List kA}(ho:o.op= .call {callee:= .value (.func f),args:=lG,argTypes:=ly})(Cg:∀tm,Kw os tm=lG.toList.map (dj tm)):dY P o (Ww f os):=by
 intro call tm m df k r h;obtain⟨v,m',hc,h⟩:=wc h;refine⟨_,_,_,h,.inr (.inl ⟨f,_,.inl ⟨_,_,_,#[],#[],ho,rfl,rfl⟩,?_,rfl⟩)⟩;simpa[Cg tm]using hc
theorem JX {lG ly:Array _}{os:List kA}(ho:o.op= .call {callee:= .value x,args:=lG,argTypes:=ly})(Cg:∀tm,Kw os tm=lG.toList.map (dj tm)):dY P o (JY (ex x) os):=by
 intro call tm m df k r h;unfold JY at h
 split at h
 ·rename_i f first cap hx
  obtain⟨v,m',hc,h⟩:=wc h;refine⟨_,_,_,h,.inr (.inl ⟨f,_,.inl ⟨_,_,_,first,cap,ho,hx,rfl⟩,?_,rfl⟩)⟩;rw[<-Cg tm];exact hc
 ·cases h
theorem J0 {rc:cd}{name:String}{lG ly:Array _}{os:List kA}(ho:o.op= .call {callee:= .invoke rc name,args:=lG,argTypes:=ly})(Cg:∀tm,Kw os tm=lG.toList.map (dj tm)):dY P o (OU P (ex rc) name os):=by
 intro call tm m df k r h;unfold OU at h
 split at h
 ·rename_i f recv hx;obtain⟨v,m',hc,h⟩:=wc h;refine⟨_,_,_,h,.inr (.inl ⟨f,_,.inr ⟨_,_,_,_,recv,ho,hx,rfl⟩,?_,rfl⟩)⟩;rw[<-Cg tm];exact hc
 ·cases h
theorem Hg {lG ly:Array _}{os:List kA}(ho:o.op= .defer {callee:= .value x,args:=lG,argTypes:=ly})(Cg:∀tm,Kw os tm=lG.toList.map (dj tm)):dY P o (Hh (ex x) os):=by
 intro call tm m df k r h;unfold Hh at h
 split at h
 ·rename_i f first cap hx
  refine⟨_,_,_,h,.inr (.inr ⟨f,_,⟨_,_,_,first,cap,ho,hx,rfl⟩,rfl,rfl,?_⟩)⟩;rw[<-Cg tm]
 ·cases h
theorem JN {op:lM}(h:hZ P o=some op):dY P o op:=by
 unfold hZ at h
 split at h
 ·rename_i ho;have :=aK h;cases this;exact zV (.inl ho)
 ·rename_i ho;have :=aK h;cases this;exact zV (.inr ho)
 ·rename_i ho;have :=aK (aK (aK h));cases this;exact Iw ho
 ·rename_i ho;exact MJ ho (aK (aK h))
 ·rename_i ho;exact IU ho (aK h)
 ·rename_i ho;exact FW ho (aK (aK h))
 ·rename_i ho;exact zh ho (aK h)
 ·rename_i ho;exact yX ho (aK (aK h))
 ·rename_i ho;exact GM ho (aK (aK h))
 ·rename_i ho;have :=aK h;cases this;exact Cw ho
 ·rename_i ho;have :=aK h;cases this;exact Lu ho
 ·rename_i ho;have :=aK h;cases this;exact Lv ho
 ·rename_i ho
  split at h
  ·rename_i z hz;cases h;exact Hv ho hz
  ·cases h
 ·rename_i ho;have :=aK h;cases this;exact ME ho
 ·rename_i ho
  split at h
  ·rename_i ha;have :=aK (aK h);cases this;exact BR (od:=false) ho ha
  ·cases h;exact cB
 ·rename_i ho
  split at h
  ·rename_i ha;have :=aK (aK h);cases this;exact BR (od:=true) ho ha
  ·cases h;exact cB
 ·rename_i ho;obtain⟨os,h,Cg⟩:=fE h;cases h;exact J1 ho Cg
 ·rename_i ho;obtain⟨os,h,Cg⟩:=fE (aK h);cases h;exact JX ho Cg
 ·rename_i ho;obtain⟨os,h,Cg⟩:=fE (aK h);cases h;exact J0 ho Cg
 ·rename_i ho
  split at h
  ·rename_i ha ht;exact LL ho ha ht (aK h)
  ·cases h;exact cB
 ·rename_i ho;obtain⟨os,h,Cg⟩:=fE (aK h);cases h;exact Hg ho Cg
 ·cases h;exact cB
def Gf (d:Option Tmp)(v:ae)(tm:Tm):Tm:=
 match d with
 |some d=>tn d v tm
 |none=>tm
def aaS (P:aD)(nt:Nat)(o:im):Prop:=(∀x∈o.op.operands,rA nt P.globals.size x=true)/\(∀d,o.dst=some d->d<512)
def qG (P:aD)(call:bJ)(nt:Nat)(ops:Array im)(i:Nat)(tm:Tm)(m:Mem)(df:Df)(fC:Tm)(m':Mem)(ma:Df):Prop:=
 ∃o,ops[i]?=some o/\aaS P nt o/\(∀j want,o.guard=some (j,want)->∃g,(ops[j]?).bind (·.dst)=some g/\g<nt/\g<512)/\
  ((cM ops o tm=true/\∃v,zv P call o tm m df v m' ma/\fC=Gf o.dst v tm)\/(cM ops o tm=false/\fC=Gf o.dst undef tm/\m'=m/\ma=df))
theorem BK {nt i:Nat}{ops:Array im}{rest f:iC}(h:SZ P nt ops i rest=some f){call:bJ}{tm:Tm}{m:Mem}{df:Df}{r:Ss}(hf:f call tm m df=some r):
  ∃fC m' ma,qG P call nt ops i tm m df fC m' ma/\rest call fC m' ma=some r:=by
 unfold SZ at h
 split at h
 ·cases h
 ·rename_i o ho
  split at h
  ·rename_i hg
   split at h
   ·cases h
   ·rename_i op di;have hs:=JN di;have nO:∀x∈o.op.operands,rA nt P.globals.size x=true:=fun x hx=>aE.1 hg x (by simpa using hx)
    split at h
    ·rename_i jN;have hw:∀tm,cM ops o tm=true:=fun tm=>by unfold cM;rw[jN]
     split at h
     ·rename_i d hd;obtain⟨ads,h⟩:=jg h;cases h;obtain⟨v,m',ma,hk,Mg⟩:=hs _ _ _ _ _ _ hf;refine⟨_,m',ma,⟨o,ho,⟨nO,fun d' DW=>by rw[hd]at DW;cases DW;exact ads⟩,fun j w hj=>(by rw[jN]at hj;cases hj),.inl ⟨hw tm,v,Mg,rfl⟩⟩,?_⟩;rw[hd];exact hk
     ·rename_i hd;cases h;obtain⟨v,m',ma,hk,Mg⟩:=hs _ _ _ _ _ _ hf;refine⟨_,m',ma,⟨o,ho,⟨nO,fun d' DW=>by rw[hd]at DW;cases DW⟩,fun j w hj=>(by rw[jN]at hj;cases hj),.inl ⟨hw tm,v,Mg,rfl⟩⟩,?_⟩;rw[hd];exact hk
    ·rename_i j want jN
     split at h
     ·rename_i g YU
      split at h
      ·rename_i hgn;rw[jz,jE]at hgn;obtain⟨ahz,h⟩:=jg h;have hgs:∀j' w,o.guard=some (j',w)->∃g,(ops[j']?).bind (·.dst)=some g/\g<nt/\g<512:=fun j' w hj=>by rw[jN]at hj;cases hj;exact⟨g,YU,hgn,ahz⟩
       have hw:∀tm,cM ops o tm=(match cV g tm with | .bool b=>b==want|_=>false):=fun tm=>by unfold cM;rw[jN];simp only[YU]<;>rfl
       split at h
       ·rename_i d hd;obtain⟨ads,h⟩:=jg h;cases h;have hdd:∀d',o.dst=some d'->d'<512:=fun d' DW=>by rw[hd]at DW;cases DW;exact ads
        have skip:cM ops o tm=false->rest call (tn d undef tm) m df=some r->∃fC m' ma,qG P call nt ops i tm m df fC m' ma/\rest call fC m' ma=some r:=fun I6 hr=>
         ⟨_,m,df,⟨o,ho,⟨nO,hdd⟩,hgs,.inr ⟨I6,rfl,rfl,rfl⟩⟩,by rw[hd];exact hr⟩
        have go:cM ops o tm=true->op call tm m df (XY (tn d) rest call tm)=some r->∃fC m' ma,qG P call nt ops i tm m df fC m' ma/\rest call fC m' ma=some r:=fun z9 hr=>by
         obtain⟨v,m',ma,hk,Mg⟩:=hs _ _ _ _ _ _ hr;exact⟨_,m',ma,⟨o,ho,⟨nO,hdd⟩,hgs,.inl ⟨z9,v,Mg,rfl⟩⟩,by rw[hd];exact hk⟩
        unfold G6 at hf
        split at hf
        ·rename_i hb;cases want with
         |true=>exact go (by rw[hw,hb];rfl) hf
         |false=>exact skip (by rw[hw,hb];rfl) hf
        ·rename_i hb;cases want with
         |true=>exact skip (by rw[hw,hb];rfl) hf
         |false=>exact go (by rw[hw,hb];rfl) hf
        ·rename_i nX mr;refine skip ?_ hf;rw[hw]
         split
         ·rename_i b hb;cases b
          ·exact absurd hb mr
          ·exact absurd hb nX
         ·rfl
       ·rename_i hd;cases h;have hdd:∀d',o.dst=some d'->d'<512:=fun d' DW=>by rw[hd]at DW;cases DW
        have skip:cM ops o tm=false->rest call tm m df=some r->∃fC m' ma,qG P call nt ops i tm m df fC m' ma/\rest call fC m' ma=some r:=fun I6 hr=>
         ⟨_,m,df,⟨o,ho,⟨nO,hdd⟩,hgs,.inr ⟨I6,rfl,rfl,rfl⟩⟩,by rw[hd];exact hr⟩
        have go:cM ops o tm=true->op call tm m df (noK rest call tm)=some r->∃fC m' ma,qG P call nt ops i tm m df fC m' ma/\rest call fC m' ma=some r:=fun z9 hr=>by
         obtain⟨v,m',ma,hk,Mg⟩:=hs _ _ _ _ _ _ hr;exact⟨_,m',ma,⟨o,ho,⟨nO,hdd⟩,hgs,.inl ⟨z9,v,Mg,rfl⟩⟩,by rw[hd];exact hk⟩
        unfold G5 at hf
        split at hf
        ·rename_i hb;cases want with
         |true=>exact go (by rw[hw,hb];rfl) hf
         |false=>exact skip (by rw[hw,hb];rfl) hf
        ·rename_i hb;cases want with
         |true=>exact skip (by rw[hw,hb];rfl) hf
         |false=>exact go (by rw[hw,hb];rfl) hf
        ·rename_i nX mr;refine skip ?_ hf;rw[hw]
         split
         ·rename_i b hb;cases b
          ·exact absurd hb mr
          ·exact absurd hb nX
         ·rfl
      ·cases h
     ·cases h
  ·cases h
end
end Go.AM
namespace Go.AM
open Go Go.Conc
def Perm.or(R E:Perm):Perm:=⟨fun b o=>R.rd b o\/E.rd b o,fun b o=>R.wr b o\/E.wr b o,fun b=>R.ob b\/E.ob b,R.deaf⟩
structure wG (R:Perm)(w:ay):Prop where
 rd:∀b o,R.rd b o->b<w.heap.size
 wr:∀b o,R.wr b o->R.rd b o
 ob:∀b,R.ob b->b<w.heap.size/\w.shape? b=none
theorem wG.keeps{R R':Perm}{w aN:ay}(h:wG R w)(k:bh R' w aN):wG R aN:=
 ⟨fun b o x=>a8 (h.rd b o x) k.size,h.wr,fun b x=>⟨a8 (h.ob b x).1 k.size,by rw[k.shape b (h.ob b x).1];exact(h.ob b x).2⟩⟩
theorem bh.sub{R R':Perm}{w aN:ay}(h:bh R w aN)(hr:∀b o,R'.rd b o->R.rd b o)(ho:∀b,R'.ob b->R.ob b):bh R' w aN:=
 ⟨h.tape,h.os,h.output,h.size,h.shape,fun b o x=>h.cell b o (hr b o x),h.qP,fun b x=>h.obj b (ho b x)⟩
theorem bh.left{R E:Perm}{w aN:ay}(h:bh (R.or E) w aN):bh R w aN:=h.sub (fun _ _=> .inl) fun _=> .inl
theorem bh.right{R E:Perm}{w aN:ay}(h:bh (R.or E) w aN):bh E w aN:=h.sub (fun _ _=> .inr) fun _=> .inr
def EvW (R:Perm)(e:Event):Prop:=nT R e\/e.loc= .mark .disable\/e.loc= .mark .enable
structure Stepped (P:aD)(main:Bool)(R:Perm)(g:ak)(w:ay)(R':Perm)(g':ak)(w':ay)(es:Array Event):Prop where
 step:stepG P main g w= .go g' w' es
 OR:s8 R w.heap.size w w'
 ev:∀e∈es,EvW R e
 within:eJ R R' w.heap.size
 deaf:R'.deaf=deafBehind R.deaf es
 low:wG R w->wG R' w'
structure gi (P:aD)(main:Bool)(J:Nat->Perm->ak->ay->Prop):Prop where
 mono:∀{n:Nat}{R:Perm}{g:ak}{w:ay},J n R g w->J (n+1) R g w
 step:∀{n:Nat}{R:Perm}{g:ak}{w:ay},g.status= .running->(∀aN,bh R w aN->∃g' w' es R',Stepped P main R g aN R' g' w' es/\J n R' g' w')->J (n+1) R g w
theorem gi.le{P:aD}{main:Bool}{J:Nat->Perm->ak->ay->Prop}(h:gi P main J){n m:Nat}(hn:n<=m){R:Perm}{g:ak}{w:ay}(hj:J n R g w):J m R g w:=by
 induction hn with
 |refl=>exact hj
 |step _ ih=>exact h.mono ih
theorem om (d:Nat):∀(l:List Event),(∀e∈l,e.loc≠ .mark .disable/\e.loc≠ .mark .enable)->deafBehind d l.toArray=d:=by
 intro l h;unfold deafBehind;simp only[List.foldl_toArray]
 induction l with
 |nil=>rfl
 |cons e l ih=>
  have h1:=h e cY;simp only[List.foldl_cons];refine Eq.trans (congrArg (fun x=>List.foldl _ x l) ?_) (ih fun x hx=>h x (by simp[hx]))
  split
  ·rename_i hh;exact absurd hh h1.1
  ·rename_i hh;exact absurd hh h1.2
  ·rfl
theorem nT.loc{R:Perm}{e:Event}(h:nT R e):e.loc≠ .mark .disable/\e.loc≠ .mark .enable:=by
 constructor<;>intro hl<;>unfold nT at h<;>rw[hl]at h<;>exact h
theorem kI {R:Perm}{es:Array Event}(h:∀e∈es,nT R e)(d:Nat):deafBehind d es=d:=by
 have :=om d es.toList fun e he=>(h e (by simpa using he)).loc
 simpa using this
structure Apart (E R:Perm)(w:ay):Prop where
 cell:∀b o,E.rd b o->b<w.heap.size/\¬R.wr b o
 obj:∀b,E.ob b->b<w.heap.size/\¬R.ob b/\w.shape? b=none
 wf:∀b o,E.wr b o->E.rd b o
theorem Apart.within{E R R':Perm}{w w':ay}(h:Apart E R w)(k:eJ R R' w.heap.size)(hs:w.heap.size<=w'.heap.size)(fN:∀b,b<w.heap.size->w'.shape? b=w.shape? b):Apart E R' w':=
 ⟨fun b o he=>⟨a8 (h.cell b o he).1 hs,fun hw=>(k.wr b o hw).elim (h.cell b o he).2 fun hn=>absurd (h.cell b o he).1 aj⟩,
  fun b he=>⟨a8 (h.obj b he).1 hs,fun hw=>(k.ob b hw).elim (h.obj b he).2.1 fun hn=>absurd (h.obj b he).1 aj,by rw[fN b (h.obj b he).1];exact(h.obj b he).2.2⟩,h.wf⟩
theorem Apart.abe{E R:Perm}{w w':ay}(h:Apart E R w)(c:s8 R w.heap.size w w'):bh E w w':=
 ⟨c.tape,c.os,c.output,c.size,fun b hb=>c.shape b hb,fun b o he=>c.cell b o (h.cell b o he).1 (h.cell b o he).2,fun b o hb=>c.qP b o hb,fun b he=>c.obj b (h.obj b he).1 (h.obj b he).2.1 (h.obj b he).2.2⟩
def ApC (E:Perm)(ρ:cZ)(m:Mem):Prop:=∀b p x,ρ b=some p->m.base<=b->p.d<=x->x<p.d+p.room->m.nI b (x-p.d)->¬E.rd p.c x
theorem S2 {m m':Mem}(hf:Fr m m')(hw:Wf m){b o:Nat}(hb:b<m.next)(h:m'.nI b o):m.nI b o:=by
 obtain⟨h1,h2,h3⟩:=h;have hh:bD m.bB b o=false:=by rw[<-hf.bB];exact h2
 have live:o<(m.blk b).cs.length->∃v,(m.blk b).cs[o]?=some (some v):=fun ho=>by
  have e:=List.getElem?_eq_getElem ho;cases hv:(m.blk b).cs[o]with
  |none=>exact absurd hv ((hw.live b).1 _ (List.getElem_mem ho))
  |some v=>exact⟨v,by rw[e,hv]⟩
 rcases hf.blk b with e|⟨_,h4|⟨_,_,_,h4⟩|⟨_,_,h4,h5⟩|⟨_,h4,_⟩⟩
 ·rw[e]at h1;exact⟨h1,hh,live⟩
 ·omega
 ·rw[h4]at h1;cases h1
 ·rw[h5]at h1;exact absurd h1 h4
 ·exact⟨h4,hh,live⟩
theorem ApC.step{E:Perm}{ρ bq:cZ}{m m':Mem}{w:ay}(h:ApC E ρ m)(hw:Wf m)(ha:Apart E (aA ρ m) w)(hf:Fr m m')(hold:∀b,b<m.next->bq b=ρ b)(hwi:eJ (aA ρ m) (aA bq m') w.heap.size):ApC E bq m':=by
 intro b p x hp hb h1 h2 h3 he
 by_cases cA:b<m.next
 ·rw[hold b cA]at hp;exact h b p x hp (by rw[<-hf.base];exact hb) h1 h2 (S2 hf hw cA h3) he
 ·rcases hwi.wr p.c x ⟨b,p,hp,rfl,h1,h2,h3,.inl (by rw[hf.floor];have :=hw.fl;omega)⟩with g|g
  ·exact(ha.cell _ _ he).2 g
  ·have :=(ha.cell _ _ he).1;omega
structure cQ (P:aD)(E:Perm)(bg:ay)(σ:mA)(ρ:cZ)(m:Mem)(w:ay):Prop where
 jF:fI ρ m w
 rest:bh E bg w
 apart:Apart E (aA ρ m) w
 og:∀g,g<P.globals.size->∃p,ρ g=some p/\p.c=g/\p.d=0
 fL:GOk σ ρ m
 wf:Wf m
 MN:ApC E ρ m
 ew:∀b o,E.wr b o->¬(aA ρ m).rd b o
theorem fI.low{ρ:cZ}{m:Mem}{w:ay}(h:fI ρ m w):wG (aA ρ m) w:=by
 refine⟨fun b o hr=>?_,fun b o hr=>lV hr,fun b hr=>?_⟩
 ·obtain⟨x,p,h1,rfl,_⟩:=hr;exact h.rr x p h1
 ·obtain⟨x,p,h1,rfl,h2,h3⟩:=hr;refine⟨h.rr x p h1,?_⟩;rcases h2 with h2|h2
  ·obtain⟨es,h4,_⟩:=h.maps x p h1 h2 h3;unfold ay.shape?;rw[h4]
  ·obtain⟨_,h4⟩:=h.lC x p h1 h2 h3;unfold ay.shape?;rw[h4]
section
variable {P:aD}{E:Perm}{bg:ay}{σ:mA}{ρ:cZ}{m:Mem}{w:ay}
theorem vG (h:fI ρ m w)(a:Apart E (aA ρ m) w):wG ((aA ρ m).or E) w:=
 ⟨fun b o x=>x.elim (h.low.rd b o) fun y=>(a.cell b o y).1,fun b o x=>x.elim (fun y=> .inl (h.low.wr b o y)) fun y=> .inr (a.wf b o y),fun b x=>x.elim (h.low.ob b) fun y=>⟨(a.obj b y).1,(a.obj b y).2.2⟩⟩
theorem cQ.low(h:cQ P E bg σ ρ m w):wG ((aA ρ m).or E) w:=vG h.jF h.apart
theorem cQ.keeps{aN:ay}(h:cQ P E bg σ ρ m w)(k:bh ((aA ρ m).or E) w aN):cQ P E bg σ ρ m aN:=
 ⟨h.jF.keeps k.left,h.rest.trans k.right,h.apart.within (eJ.refl _ _) k.size k.shape,h.og,h.fL,h.wf,h.MN,h.ew⟩
theorem cQ.left{bq:cZ}{m':Mem}{w':ay}(h:cQ P E bg σ ρ m w)(l:Left ρ m w bq m' w')(f:jb m m')(c:s8 (aA ρ m) w.heap.size w w'):cQ P E bg σ bq m' w':=
 ⟨l.jF,h.rest.trans (h.apart.abe c),h.apart.within l.within c.size c.shape,fun g hg=>let⟨p,h1,h2⟩:=h.og g hg;⟨p,l.le _ _ h1,h2⟩,h.fL.fr f.1 l.le l.old,f.2.2 h.wf,h.MN.step h.wf h.apart f.1 l.old l.within,
  fun b o he hr=>(l.within.rd b o hr).elim (h.ew b o he) fun hN=>by have :=(h.apart.cell b o (h.apart.wf b o he)).1;omega⟩
theorem eJ.or{R R' E:Perm}{N:Nat}(h:eJ R R' N):eJ (R.or E) (R'.or E) N:=
 ⟨fun b o x=>x.elim (fun y=>(h.rd b o y).imp .inl id) fun y=> .inl (.inr y),fun b o x=>x.elim (fun y=>(h.wr b o y).imp .inl id) fun y=> .inl (.inr y),fun b x=>x.elim (fun y=>(h.ob b y).imp .inl id) fun y=> .inl (.inr y)⟩
theorem s8.or{R E:Perm}{N:Nat}{w w':ay}(h:s8 R N w w'):s8 (R.or E) N w w':=
 ⟨h.tape,h.os,h.output,h.size,h.shape,fun b o hb hw=>h.cell b o hb fun x=>hw (.inl x),h.qP,fun b hb ho=>h.obj b hb fun x=>ho (.inl x)⟩
theorem nT.or{R E:Perm}{e:Event}(h:nT R e):nT (R.or E) e:=by
 unfold nT at h⊢
 split at h
 ·refine⟨h.1,?_⟩
  split
  ·rename_i hw;have :=h.2;rw[bK hw]at this;exact .inl this
  ·rename_i hw;have :=h.2;rw[bZ hw]at this;exact .inl this
 ·exact⟨.inl h.1,h.2⟩
 ·exact h
 ·exact h
theorem mM {main:Bool}{J:Nat->Perm->ak->ay->Prop}(hJ:gi P main J){R:Perm}{g g':ak}{n:Nat}(hr:g.status= .running)(hs:∀w,stepG P main g w= .go g' w #[])
  (h:∀aN,bh R w aN->J n R g' aN):J (n+1) R g w:=
 hJ.step hr fun aN hk=>⟨g',aN,#[],R,⟨hs aN,s8.refl _ _ _,fun e he=>by simp at he,eJ.refl _ _,rfl,id⟩,h aN hk⟩
variable {main:Bool}{J:Nat->Perm->ak->ay->Prop}{b:Frame}{a:Act}{k:List Item}{cs:List Frame}{ops:Array im}{i:Nat}{rest:List Nat}{o:im}
theorem AS (hJ:gi P main J)(ho:ops[i]?=some o)(hw:Region.wanted o (yielded ops a.tmps)=true)(hk:b.kind≠ .early)(H:cQ P E bg σ ρ m w){ev:cd->ae}
  (dP:∀x∈o.op.operands,aP ρ (ev x) (a.eval x)){v:ae}{m':Mem}(di:dp P ev o m=some (v,m')){l:Nat}
  (hn:∀bq v' w',ρ.le bq->(∀b,b<m.next->bq b=ρ b)->cQ P E bg σ bq m' w'->aP bq v v'->J l ((aA bq m').or E) (G (b.at (a.put o.dst v') (.inRegion ops rest::k)) cs) w'):
  J (l+1) ((aA ρ m).or E) (G (b.at a (.inRegion ops (i::rest)::k)) cs) w:=by
 refine hJ.step rfl fun aN jM=>?_
 have gp:=H.keeps jM;have Dq:=SW di;obtain⟨nx,w',gY,⟨bq,hL,v',hv,hy⟩,hc,he⟩:=mI (ai _) (EJ gp.jF (ai _) dP di);obtain⟨evs,y7,ep⟩:=he #[];have mo:∀e∈listed P b.fn a o aN,nT (aA ρ m) e:=fun e hx=>ep e (by have :=mem_listed hx;rw[y7]at this;simpa using this)
 have hH:=gp.left hL Dq hc;have xE:=hn bq v' w' hL.le hL.old hH hv;have ei:∀g',stepG P main (G (b.at a (.inRegion ops (i::rest)::k)) cs) aN= .go g' w' (listed P b.fn a o aN)->
   Stepped P main ((aA ρ m).or E) (G (b.at a (.inRegion ops (i::rest)::k)) cs) aN ((aA bq m').or E) g' w' (listed P b.fn a o aN):=fun g' hs=>
  ⟨hs,hc.or,fun e hx=> .inl (mo e hx).or,hL.within.or,by
   show m'.deaf=deafBehind m.deaf _
   rw[kI mo,Dq.2.1],fun _=>hH.low⟩
 rcases hy with rfl|⟨rfl,rfl,rfl⟩
 ·exact⟨_,w',_,_,ei _ (stepG_value ho hw hk gY),xE⟩
 ·exact⟨_,w',_,_,ei _ (stepG_none ho hw hk gY),xE⟩
theorem qI (hJ:gi P main J)(ho:ops[i]?=some o)(hw:Region.wanted o (yielded ops a.tmps)=false){R:Perm}{l:Nat}
  (hn:∀aN,bh R w aN->J l R (G (b.at (a.put o.dst undef) (.inRegion ops rest::k)) cs) aN):J (l+1) R (G (b.at a (.inRegion ops (i::rest)::k)) cs) w:=
 mM hJ rfl (fun w=>stepG_unwanted ho hw) hn
end
end Go.AM
