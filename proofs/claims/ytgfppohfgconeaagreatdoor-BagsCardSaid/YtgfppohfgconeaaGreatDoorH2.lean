/-
  What the claim stands on, part 2.
-/
import Derived.Test.YtgfppohfgconeaaGreatDoorH1
import Derived.Orders
import Derived.Conc.DeferLaws
import Derived.Conc.Own5
import Derived.Conc.QuitsD
set_option linter.unusedVariables false
set_option linter.unusedSimpArgs false
open Go renaming Value → ae, Goroutine → ak, World → ao, Program → aC, TypeId → aO, Operand → bS, IntKind → bU, Oper → gK
open Bool renaming and_eq_true → ag, false_eq_true → cF
open Option.some renaming injEq → ah
open Nat renaming le_refl → aj, lt_of_lt_of_le → aW, le_trans → bV
open Prod.mk renaming injEq → au
open Option renaming map_eq_some_iff → az, bind_eq_some_iff → bC, map_some → cU, bind_some → dq, isSome_iff_exists → qU
open List renaming all_eq_true → aB
namespace Go.AM
open Go
section
variable {P:aC}{ρ:dw}{m:Mem}{w:ao}{N:Nat}
theorem pL {w:ao}{c:Nat}{o o':Obj}(ho:w.heap[c]?=some o')(h1:∀C t f,o'≠ .cells C t f)(h2:∀C t f,o≠ .cells C t f)(b x:Nat):
  ({w with heap:=w.heap.setIfInBounds c o}:ao).cell? ⟨b,x,none⟩=w.cell? ⟨b,x,none⟩/\({w with heap:=w.heap.setIfInBounds c o}:ao).shape? b=w.shape? b/\({w with heap:=w.heap.setIfInBounds c o}:ao).frozen? ⟨b,x,none⟩=w.frozen? ⟨b,x,none⟩:=by
 have cB:c<w.heap.size:=by
  rcases Nat.lt_or_ge c w.heap.size with h|h
  ·exact h
  ·rw[Array.getElem?_eq_none h]at ho;cases ho
 unfold ao.cell? ao.shape? ao.frozen?;simp only[Array.getElem?_setIfInBounds]
 by_cases hb:c=b
 ·subst hb;simp only[if_true,bj cB,ho];cases o with
  |cells C t f=>exact absurd rfl (h2 C t f)
  |_=>cases o' with
   |cells C t f=>exact absurd rfl (h1 C t f)
   |_=>exact⟨by first |rfl|trivial,by first |rfl|trivial,by first |rfl|trivial⟩
 ·simp only[bW hb];refine⟨?_,?_,?_⟩<;>first |rfl|trivial
theorem fL.setObj(h:fL ρ m w){b:Nat}{p:Pl}(hp:ρ b=some p){k:dZ}(hk:(m.blk b).kind=2\/(m.blk b).kind=3)(OC:k.kind=(m.blk b).kind){o o':Obj}(ho:w.heap[p.c]?=some o')(h1:∀C t f,o'≠ .cells C t f)(h2:∀C t f,o≠ .cells C t f)
  (Mm:k.kind=2->∃lp,o= .map lp k.clock/\bH (yy ρ) k.es.toList lp.toList)(JA:k.kind=3->p.d=0/\o= .stringIter k.str k.pos):
  Left ρ m w ρ (m.a9 b k) {w with heap:=w.heap.setIfInBounds p.c o}:=by
 have eF:∀b',(m.a9 b k).blk b'=if b=b' then{k with bK:=m.tick}else m.blk b':=fun b'=>Mem.eC ..
 have iA:∀b',((m.a9 b k).blk b').kind=(m.blk b').kind:=fun b'=>by rw[eF];split<;>simp_all
 have cB:p.c<w.heap.size:=h.rB b p hp;have kY:∀b' x v,(m.a9 b k).cell b' x=some v->b≠b'/\m.cell b' x=some v:=by
  intro b' x v hc;have hkc:=(Mem.eE hc).1;rw[iA]at hkc;have dQ:b≠b':=by rintro rfl;omega
  refine⟨dQ,?_⟩;unfold Mem.cell at hc⊢;rw[eF,bW dQ]at hc;exact hc
 have T3:∀b' x,(m.a9 b k).nC b' x->m.nC b' x:=by
  rintro b' x ⟨g1,g2,g3⟩;rw[iA]at g1;have dQ:b≠b':=by rintro rfl;omega
  rw[eF,bW dQ]at g3;exact⟨g1,g2,g3⟩
 have T2:∀b' x,(m.a9 b k).okW b' x->m.okW b' x:=fun b' x hx=>⟨T3 _ _ hx.1,hx.2⟩
 have Jt:∀b' p',b≠b'->ρ b'=some p'->(m.blk b').kind≠0->p.c≠p'.c:=fun b' p' dQ dG gh th=>by
  have :=(h.sep b b' p p' dQ hp dG ai gh th).1;omega
 refine⟨ρ.le_refl,⟨h.mo,fun b' p' dG gh=>?_,fun b' p' x v dG hc=>?_,fun b' p' x dG hx gh ny=>?_,fun b' p' dG gh pW=>?_,fun b' p' dG gh pW=>?_,fun yp yo nB oG dQ pV AJ k₁ k₂ hc=>?_,fun b' p' dG=>?_,fun b' p' dG gh Be=>?_⟩,⟨?_,?_,?_⟩,fun _ _=>rfl⟩
 ·rw[iA]at gh;have dQ:b≠b':=by rintro rfl;omega
  rw[eF,bW dQ];obtain⟨g1,g2,e,n,g3,g4⟩:=h.cells b' p' dG gh;exact⟨g1,g2,e,n,by rw[(pL ho h1 h2 p'.c 0).2.1];exact g3,g4⟩
 ·obtain⟨_,Fe⟩:=kY _ _ _ hc;obtain⟨v',g1,g2⟩:=h.kN b' p' x v dG Fe;exact⟨v',by rw[(pL ho h1 h2 _ _).1];exact g1,g2⟩
 ·rw[(pL ho h1 h2 _ _).2.2];rw[iA]at gh;exact h.thaw b' p' x dG hx gh ny
 ·rw[iA]at gh
  by_cases hb:b=b'
  ·subst hb;obtain rfl:p=p':=by rw[hp]at dG;exact Option.some.inj dG
   obtain⟨lp,rfl,g⟩:=Mm ai;rw[eF,bj rfl];exact⟨lp,by simp[cB],g⟩
  ·rw[eF,bW hb];obtain⟨lp,g1,g2⟩:=h.maps b' p' dG gh pW;exact⟨lp,by rw[Array.getElem?_setIfInBounds_ne (Jt b' p' hb dG ai)];exact g1,g2⟩
 ·rw[iA]at gh
  by_cases hb:b=b'
  ·subst hb;obtain rfl:p=p':=by rw[hp]at dG;exact Option.some.inj dG
   obtain⟨g,rfl⟩:=JA ai;rw[eF,bj rfl];exact⟨g,by simp[cB]⟩
  ·rw[eF,bW hb];obtain⟨g1,g2⟩:=h.kX b' p' dG gh pW;exact⟨g1,by rw[Array.getElem?_setIfInBounds_ne (Jt b' p' hb dG ai)];exact g2⟩
 ·rw[iA]at k₁ k₂⊢;rw[iA];exact h.sep yp yo nB oG dQ pV AJ k₁ k₂ hc
 ·simpa using h.rB b' p' dG
 ·rw[iA]at gh;have dQ:b≠b':=by rintro rfl;omega
  rw[eF,bW dQ]at Be;exact h.vars b' p' dG gh Be
 ·rintro c x ⟨b',p',g1,g2,g3,g4,g5⟩;exact .inl ⟨b',p',g1,g2,g3,g4,T3 _ _ g5⟩
 ·rintro c x ⟨b',p',g1,g2,g3,g4,g5⟩;exact .inl ⟨b',p',g1,g2,g3,g4,T2 _ _ g5⟩
 ·rintro c ⟨b',p',g1,g2,g3,g4⟩;exact .inl ⟨b',p',g1,g2,by rwa[iA]at g3,g4⟩
theorem wo {R:Perm}{c:Nat}{o o':Obj}(ho:w.heap[c]?=some o')(h1:∀C t f,o'≠ .cells C t f)(h2:∀C t f,o≠ .cells C t f)(h3:o.isChan=false)(hr:R.ob c){Q:Unit->ao->Prop}(hq:Q () {w with heap:=w.heap.setIfInBounds c o}):dR P R N (setObj c o) Q w:=
 ⟨⟨o',ho,h1⟩,h2,h3,hr,hq⟩
theorem wq {R:Perm}{c:Nat}{o:Obj}(ho:w.heap[c]?=some o)(h1:∀C t f,o≠ .cells C t f)(h3:o.isChan=false)(hr:R.ob c){Q:Obj->ao->Prop}(hq:Q o w):dR P R N (getObj c) Q w:=
 ⟨o,ho,h1,h3,hr,hq⟩
theorem LH {R:Perm}{o:Obj}{Q:Nat->ao->Prop}(hq:Q w.heap.size {w with heap:=w.heap.push o}):dR P R N (newObj o) Q w:=hq
theorem J1 (h:fL ρ m w){kW:Array aO}{ty:aO}{d d' s s' v:ae}{m':Mem}(hd:aQ ρ d d')(hs:aQ ρ s s')(ha:Fz P kW d s m=some (v,m'))
  {Q:ae->ao->Prop}(hq:∀v' w' bq,Left ρ m w bq m' w'->aQ bq v v'->Q v' w'):dR P (ax ρ m) N (Builtin.copy_ kW ty #[d',s']) Q w:=by
 unfold Fz at ha
 split at ha
 ·rename_i e base dl cap fp;obtain⟨st,Mh,fp⟩:=bC.1 fp
  split at ha
  ·rename_i size sl Ou hlen
   split at ha
   ·rename_i sb sn sc;obtain⟨cells,zi,ha⟩:=bC.1 ha;obtain⟨uz,gC,rfl,mN⟩:=qF.of hd;unfold Builtin.copy_;simp only[Mh,List.getElem?_toArray,List.getElem?_cons_zero,List.getElem?_cons_succ];rw[ar];refine aG fp ?_;simp only[];rw[ar];refine Cw hs hlen ?_;rw[ar];refine dM Ou ?_;rw[ar];refine oP h hs zi fun xJ xV=>?_
    split at ha
    ·rename_i b o;obtain⟨pl,dB,_,rfl,_⟩:=mN;obtain⟨m2,yC,Ut⟩:=az.1 ha;simp only[au]at Ut;obtain⟨rfl,rfl⟩:=Ut;simp only[];rw[ar];exact px h dB yC xV fun w' hL _=>hq _ _ _ hL (cj rfl)
    ·obtain⟨rfl,_⟩:=mN;simp only[ah,au]at ha;obtain⟨rfl,rfl⟩:=ha;exact hq _ _ _ (Left.refl h) (cj rfl)
    ·cases ha
   ·cases ha
  ·cases ha
 ·cases ha
theorem Hu (h:fL ρ m w){kW:Array aO}{ty:aO}{x x' v:ae}{m':Mem}(hx:aQ ρ x x')(ha:j8 P kW x m=some (v,m'))
  {Q:ae->ao->Prop}(hq:∀v' w' bq,Left ρ m w bq m' w'->aQ bq v v'->Q v' w'):dR P (ax ρ m) N (Builtin.clear_ kW ty #[x']) Q w:=by
 unfold j8 at ha
 split at ha
 ·rename_i e base n cap fp;obtain⟨st,Mh,fp⟩:=bC.1 fp;obtain⟨uz,gC,rfl,mN⟩:=qF.of hx;unfold Builtin.clear_;simp only[Mh,List.getElem?_toArray,List.getElem?_cons_zero];rw[ar];refine aG fp ?_
  split at ha
  ·obtain⟨rfl,_⟩:=mN;simp only[ah,au]at ha;obtain⟨rfl,rfl⟩:=ha;exact hq _ _ _ (Left.refl h) jO
  ·rename_i b o;obtain⟨pl,dB,_,rfl,_⟩:=mN
   split at ha
   ·rename_i hn;subst hn;simp only[ah,au]at ha;obtain⟨rfl,rfl⟩:=ha;exact hq _ _ _ (Left.refl h) jO
   ·rename_i hn;obtain⟨z,hz,ha⟩:=bC.1 ha;obtain⟨m2,yC,Ut⟩:=az.1 ha;simp only[au]at Ut;obtain⟨rfl,rfl⟩:=Ut;obtain⟨k,rfl⟩:∃k,n=k+1:=⟨n-1,ai⟩
    show dR P (ax ρ m) N (do storeCells ⟨pl.c,pl.d+o,none⟩ (Builtin.zeroCells (<-zeroValue e).cells (k+1)).toList;pure (ae.tuple #[])) Q w
    rw[ar];refine fe hz ?_;rw[ar];exact px h dB yC (iF (Az (jE hz).1 _)) fun w' hL _=>hq _ _ _ hL jO
  ·cases ha
 ·cases ha
theorem Cj:∀{l:List ae}{bs:List UInt8},l.mapM (m:=Option) (fun v=>match v with | .int .u8 n=>some (UInt8.ofNat n.toNat)|_=>none)=some bs->l.all de=true
 | [],_,_=>rfl
 |v::l,bs,h=>by
  rw[List.mapM_cons]at h;simp only[Option.bind_eq_bind,bC,Option.pure_def,ah]at h;obtain⟨x,hx,ys,Zh,rfl⟩:=h;rw[List.all_cons,Cj Zh,Bool.and_true]
  split at hx
  ·rfl
  ·cases hx
theorem Dj {R:Perm}{f:ae->ByteArray->Sem (ForInStep ByteArray)}(hf:∀n s,f (.int .u8 n) s=pure (.yield (s.push (UInt8.ofNat n.toNat)))){Q:ByteArray->ao->Prop}:
  ∀(l:List ae) (s:ByteArray) (bs:List UInt8),l.mapM (m:=Option) (fun v=>match v with | .int .u8 n=>some (UInt8.ofNat n.toNat)|_=>none)=some bs->Q ⟨s.data++bs.toArray⟩ w->dR P R N (forIn l s f) Q w
 | [],s,bs,h,hq=>by
  simp at h;subst h
  show Q s w
  simpa using hq
 |v::l,s,bs,h,hq=>by
  rw[List.mapM_cons]at h;simp only[Option.bind_eq_bind,bC,Option.pure_def,ah]at h;obtain⟨x,hx,ys,Zh,rfl⟩:=h
  split at hx
  ·rename_i n;simp only[ah]at hx;subst hx;rw[List.forIn_cons,hf,pure_bind];refine Dj hf l (s.push (UInt8.ofNat n.toNat)) ys Zh ?_;have e:(s.push (UInt8.ofNat n.toNat)).data++ys.toArray=s.data++(UInt8.ofNat n.toNat::ys).toArray:=by
    show s.data.push _++ys.toArray=_
    simp
   rw[e];exact hq
  ·cases hx
theorem EV {R:Perm}{r:Nat}{x:Option (aO×Nat)}(h:w.shape? r=x){Q:Option (aO×Nat)->ao->Prop}(hq:Q x w):dR P R N (shape r) Q w:=by
 show Q (w.shape? r) w
 rw[h];exact hq
theorem C' (h:fL ρ m w)(hN:N<=w.heap.size){s d:aO}{x x' v:ae}{m':Mem}(hx:aQ ρ x x')(ha:fK P s d x m=some (v,m'))
  {Q:ae->ao->Prop}(hq:∀v' w' bq,Left ρ m w bq m' w'->aQ bq v v'->Q v' w'):dR P (ax ρ m) N (convert s d x') Q w:=by
 unfold fK at ha
 split at ha
 ·rename_i t b o hs hd;obtain⟨pl,dB,_,rfl⟩:=cP.1 hx;simp only[]at ha
  split at ha
  ·rename_i k hk
   split at ha
   ·rename_i hc;simp only[ag,beq_iff_eq,iB]at hc;simp only[ah,au]at ha;obtain⟨rfl,rfl⟩:=ha;obtain⟨_,Ra,e,n,fI,hn⟩:=h.cells b pl dB hc.1;unfold convert;rw[ar];refine aG hs ?_;rw[ar];refine aG hd ?_
    show dR P (ax ρ m) N (Conv.unsafePointer s d (.pointer (some ⟨pl.c,pl.d+o,none⟩))) Q w
    unfold Conv.unsafePointer;rw[ar];refine aG hs ?_;rw[ar];refine aG hd ?_;simp only[];rw[ar];have Jr:∀{Q:Addr->ao->Prop},Q ⟨pl.c,pl.d+o,none⟩ w->dR P (ax ρ m) N (Conv.seenAt ⟨pl.c,pl.d+o,none⟩) Q w:=by
     intro Q hQ;unfold Conv.seenAt viewAt;simp only[bind_assoc];rw[ar]
     show dR P (ax ρ m) N _ Q w
     rw[fI];exact hQ
    refine Jr ?_;unfold cellsIn;simp only[bind_assoc];rw[ar]
    show dR P (ax ρ m) N _ Q w
    rw[fI];simp only[pure_bind];rw[ar];refine dM hk ?_;rw[bW (by simp;omega)];exact hq _ _ _ (Left.refl h) hx
   ·cases ha
  ·cases ha
 ·rename_i e str hs hd;obtain rfl:=(aF (by rfl)).1 hx
  split at ha
  ·rename_i he
   split at ha
   ·cases ha
   ·rename_i ig;simp only[ah,au]at ha;obtain⟨rfl,rfl⟩:=ha;unfold convert;rw[ar];refine aG hs ?_;rw[ar];refine aG hd ?_;simp only[];rw[ar];refine aG he ?_;simp only[];unfold Conv.stringToBytes;rw[ar];refine tL ai fun nc hn1 hn2=>?_
    rw[ar];refine pE ?_;generalize hC:(str.data.map fun b=>(ae.int .u8 b.toNat))++Array.replicate (nc-str.size) (ae.int .u8 0)=C;rw[ar];unfold markStringish;rw[ar];have fI:({w with drawn:=w.drawn+1,heap:=w.heap.push (.cells C e)}:ao).shape? w.heap.size=some (e,C.size):=by
     unfold ao.shape?;simp
    refine EV fI ?_;refine⟨hN,?_⟩;have hf:({w with drawn:=w.drawn+1,heap:=w.heap.push (.cells C e)}:ao).freeze ⟨w.heap.size,C.size,none⟩ 1={w with drawn:=w.drawn+1,heap:=w.heap.push (.cells C e (C.size,C.size+1))}:=by
     unfold ao.freeze;rw[bW ai];have :(w.heap.push (.cells C e)).modify w.heap.size (fun
      | .cells c elem (lo,hi)=> .cells c elem (if lo==hi then(C.size,C.size+1)else(min lo C.size,max hi (C.size+1)))
      |o=>o)=w.heap.push (.cells C e (C.size,C.size+1)):=by
      apply Array.ext_getElem?;intro i;rw[Array.getElem?_modify]
      by_cases hi:w.heap.size=i
      ·subst hi;simp
      ·rw[bW hi];rcases Nat.lt_or_ge i w.heap.size with g|g
       ·rw[Array.getElem?_push_lt g,Array.getElem?_push_lt g]
       ·rw[Array.getElem?_eq_none (by simp;omega),Array.getElem?_eq_none (by simp;omega)]
     exact congrArg (fun hp=>({w with drawn:=w.drawn+1,heap:=hp}:ao)) this
    show dR P (ax ρ m) N (pure (ae.slice (some ⟨w.heap.size,0,none⟩) str.size nc)) Q _
    rw[hf];have hn:=rm h;have hCs:C.size=nc:=by rw[<-hC];simp;show str.size+(nc-str.size)=nc;omega
    have j7:(m.alloc {kind:=1,sz:=1,cs:=str.data.toList.map fun b=>some (.int .u8 b.toNat)}).blk m.next={kind:=1,sz:=1,cs:=str.data.toList.map fun b=>some (.int .u8 b.toNat),bK:=m.tick}:=by rw[Mem.cD,bj rfl]
    have hL:Left ρ m w (ρ.put m.next ⟨w.heap.size,0,C.size,1⟩) (m.alloc {kind:=1,sz:=1,cs:=str.data.toList.map fun b=>some (.int .u8 b.toNat)}) {w with drawn:=w.drawn+1,heap:=w.heap.push (.cells C e (C.size,C.size+1))}:=by
     refine⟨dw.tS hn _,(h.bump _).lay hn du (o:= .cells C e (C.size,C.size+1)) rfl rfl (fun _=>?_) (fun hk=>by rw[j7]at hk;simp at hk) (fun hk=>by rw[j7]at hk;simp at hk),
      (mC (kK h _) rfl rfl rfl rfl _).trans (vT hn (aj _)),AX⟩
     rw[j7];refine⟨rfl,rfl,?_,C,e,(C.size,C.size+1),rfl,aj _,fun x hx cN=>by have h1:x<C.size:=hx;have h2:C.size<=x:=cN.1;omega,fun i v hi=>?_⟩
     ·simp only[List.length_map,Array.length_toList];show str.size<=C.size;omega
     ·rw[List.getElem?_map,az]at hi;obtain⟨u,hu,hx⟩:=hi;obtain rfl:=Option.some.inj hx;refine⟨_,?_,cj rfl⟩;rw[<-hC];have cB:i<str.data.size:=by
       rcases Nat.lt_or_ge i str.data.size with g|g
       ·exact g
       ·rw[List.getElem?_eq_none (by simpa using g)]at hu;cases hu
      rw[Array.getElem?_append_left (by simpa using cB)];simp only[Array.getElem?_map,az];exact⟨u,by simpa using hu,rfl⟩
    refine hq _ _ _ hL (bZ.2 ⟨_,nc,dw.kr ..,rfl,rfl,?_⟩);rw[bj rfl];refine⟨hn1,?_⟩
    show 0+nc*1<=C.size
    omega
  ·cases ha
 ·rename_i e a len cap hs hd
  split at ha
  ·rename_i he;obtain rfl:=(aF (by rfl)).1 hx;simp only[ah,au]at ha;obtain⟨rfl,rfl⟩:=ha;unfold convert;rw[ar];refine aG hs ?_;rw[ar];refine aG hd ?_;simp only[];rw[ar];refine aG he ?_;exact hq _ _ _ (Left.refl h) (cj rfl)
  ·rename_i b o he;obtain⟨l,hl,ha⟩:=bC.1 ha;obtain⟨bs,VE,ha⟩:=az.1 ha;simp only[au]at ha;obtain⟨rfl,rfl⟩:=ha;obtain⟨pl,gC,dB,_,rfl,_⟩:=bZ.1 hx;unfold convert;rw[ar];refine aG hs ?_;rw[ar];refine aG hd ?_;simp only[];rw[ar];refine aG he ?_;simp only[];unfold Conv.bytesToString;simp only[];rw[ar];refine h.qL dB hl fun l' Ag=>?_
   obtain rfl:=qm (Cj VE) Ag;rw[ar];simp only[List.forIn_toArray];exact Dj (fun _ _=>rfl) l' ByteArray.empty bs VE (hq _ _ _ (Left.refl h) ((aF (by rfl)).2 du))
  ·cases ha
 ·cases ha
theorem bytes_beq {a b:ByteArray}:(a==b)=true↔a=b:=by
 show(a.data==b.data)=true↔a=b
 rw[beq_iff_eq];exact⟨ByteArray.ext,fun h=>by rw[h]⟩
theorem sU {R:Perm}{b:Bool}{n:Nat}{kt:aO}{s:ByteArray}(hk:P.underlying kt=some .string){Q:Unit->ao->Prop}(hq:Q () w):dR P R N (Instr.checkKey b (n+1) kt (.string s)) Q w:=by
 unfold Instr.checkKey;rw[ar];refine aG hk ?_;exact hq
theorem Al {s:ByteArray}:∀{es lp:List MapEntry} (i:Nat),bH (yy ρ) es lp->strKeys es=true->
  ∃r,Instr.findNow .string (.string s) lp i=some r/\(match kH s es i with
   |some (j,v)=>∃v',r=some (j,v')/\aQ ρ v v'
   |none=>r=none)
 | [],[],i,_,_=>⟨none,rfl,rfl⟩
 | [],_::_,_,h,_=>h.elim
 |_::_,[],_,h,_=>h.elim
 |e::es,e'::lp,i,h,hs=>by
  obtain⟨⟨hk,hv,_⟩,ht⟩:=h;simp only[strKeys,ag]at hs;obtain⟨Xu,Ov⟩:=hs
  split at Xu
  ·rename_i str hek;rw[hek]at hk;have gh:=(aF (by rfl)).1 hk;unfold Instr.findNow kH;rw[gh,hek];simp only[Instr.sameNow]
   by_cases hb:(s==str)=true
   ·rw[hb];exact⟨_,rfl,_,rfl,hv⟩
   ·have gA:(s==str)=false:=by simpa using hb
    rw[gA];simp only[cF,if_false];exact Al (i+1) ht Ov
  ·cases Xu
theorem Am {R:Perm}{kt:aO}{s:ByteArray}(hk:P.underlying kt=some .string){es lp:List MapEntry}(he:bH (yy ρ) es lp)(hs:strKeys es=true){Q:Option (Nat×ae)->ao->Prop}
  (hq:∀r,(match kH s es 0 with
   |some (j,v)=>∃v',r=some (j,v')/\aQ ρ v v'
   |none=>r=none)->Q r w):dR P R N (Instr.findKey kt (.string s) lp) Q w:=by
 unfold Instr.findKey;rw[ar];refine aG hk ?_;obtain⟨r,h1,h2⟩:=Al (s:=s) 0 he hs;rw[h1];exact hq _ h2
theorem Ee (h:fL ρ m w){t:aO}{x x' k k' v:ae}{ok:Bool}(hx:aQ ρ x x')(hk:aQ ρ k k')(ha:iQ P t x k ok m=some v)
  {Q:ae->ao->Prop}(hq:∀v',aQ ρ v v'->Q v' w):dR P (ax ρ m) N (Instr.lookup t x' k' ok) Q w:=by
 unfold iQ at ha
 split at ha
 ·rename_i kt et r s ht;obtain rfl:=(aF (by rfl)).1 hk
  split at ha
  ·rename_i z hkt hz;have fin:∀{es lp:List MapEntry} (_:bH (yy ρ) es lp) (_:strKeys es=true),(let v:=match kH s es 0 with |some (_,v)=>(v,true)|none=>(z,false)
     (if ok then ae.tuple #[v.1,.bool v.2]else v.1))=v->∀b,dR P (ax ρ m) N (do
      Instr.checkKey b 10000 kt (.string s)
      let(v,ok')<-match<-Instr.findKey kt (.string s) lp with
       |some (_,v)=>pure (v,true)
       |none=>pure (<-zeroValue et,false)
      pure (if ok then ae.tuple #[v,.bool ok']else v)) Q w:=by
    intro es lp he hs hv b;rw[ar];refine sU hkt ?_;rw[ar];refine Am hkt he hs fun r hr=>?_
    have G6:∀u u' b,aQ ρ u u'->(if ok then ae.tuple #[u,.bool b]else u)=v->Q (if ok then ae.tuple #[u',.bool b]else u') w:=by
     intro u u' b hu hv;refine hq _ ?_;subst hv;cases ok with
     |false=>exact hu
     |true=>exact eQ.2 ⟨_,rfl,hu,cj rfl,trivial⟩
    split at hr
    ·rename_i j u hf;obtain⟨u',rfl,hu⟩:=hr;simp only[hf]at hv;exact G6 _ _ _ hu hv
    ·rename_i hf;subst hr;simp only[hf]at hv;simp only[];rw[ar];refine fe hz ?_;exact G6 _ _ _ (by
      have :=jE hz;refine cj ?_;unfold iw at hz;cases z with
      |agg cs=>exact this.1
      |tuple cs=>exact absurd this.1 (by simp[ae.cells,de])
      |_=>simpa[plain,ae.cells]using this.1) hv
   unfold Instr.lookup;rw[ar];refine aG ht ?_;simp only[]
   split at ha
   ·rename_i es KF
    split at ha
    ·rename_i hsk;simp only[ah]at ha
     split at KF
     ·simp only[ah]at KF;subst KF;obtain rfl:=(aF (by rfl)).1 hx;exact fin (es:=[]) (lp:=[]) trivial rfl ha true
     ·rename_i b;simp only[]at KF
      split at KF
      ·rename_i hc;simp only[ag,beq_iff_eq]at hc;simp only[ah]at KF;subst KF;obtain⟨p,hp,rfl⟩:=iV.1 hx;obtain⟨lp,g1,g2⟩:=h.maps b p hp hc.1 hc.2;simp only[bind_assoc];rw[ar];refine wq (R:=ax ρ m) g1 (by intro _ _ _ h;cases h) rfl ⟨b,p,hp,rfl,.inl hc.1,hc.2⟩ ?_;simp only[pure_bind];exact fin g2 hsk ha _
      ·cases KF
    ·cases ha
   ·cases ha
  ·cases ha
 ·cases ha
theorem Ak {s:ByteArray}:∀{es:List MapEntry}{i j:Nat}{v:ae},kH s es i=some (j,v)->i<=j/\∃e,es[j-i]?=some e/\e.key= .string s
 | [],_,_,_,h=>by cases h
 |e::es,i,j,v,h=>by
  unfold kH at h
  split at h
  ·rename_i k hk
   split at h
   ·rename_i hb;simp only[ah,au]at h;obtain⟨rfl,rfl⟩:=h;refine⟨aj _,e,du,?_⟩;rw[hk,bytes_beq.1 hb]
   ·obtain⟨h1,e',h2,h3⟩:=Ak h;refine⟨ai,e',?_,h3⟩;rw[show j-i=(j-(i+1))+1 by omega];simpa using h2
  ·cases h
theorem IE {l r:List MapEntry}(h:bH (yy ρ) l r)(i:Nat){f g:MapEntry->MapEntry}(hfg:∀a b,yy ρ a b->yy ρ (f a) (g b)):bH (yy ρ) (l.modify i f) (r.modify i g):=by
 refine bH.GA (by simp[h.length]) fun j a b ha hb=>?_
 rw[List.getElem?_modify]at ha hb;cases hl:l[j]? with
 |none=>simp[hl]at ha
 |some x=>
  obtain⟨y,hy,Eh⟩:=h.get hl;rw[hl]at ha;rw[hy]at hb;obtain rfl:=Option.some.inj ha;obtain rfl:=Option.some.inj hb
  show yy ρ (if i=j then f x else x) (if i=j then g y else y)
  by_cases jq:i=j
  ·rw[bj jq,bj jq];exact hfg _ _ Eh
  ·rw[bW jq,bW jq];exact Eh
theorem yV (h:fL ρ m w){t:aO}{x x' k k' v v':ae}{m':Mem}(hx:aQ ρ x x')(hk:aQ ρ k k')(hv:aQ ρ v v')(ha:kT P t x k v m=some m')
  {Q:Unit->ao->Prop}(hq:∀w',Left ρ m w ρ m' w'->Q () w'):dR P (ax ρ m) N (Instr.mapUpdate t x' k' v') Q w:=by
 unfold kT at ha
 split at ha
 ·rename_i kt et b s ht;obtain rfl:=(aF (by rfl)).1 hk
  split at ha
  ·rename_i hkt;simp only[]at ha
   split at ha
   ·rename_i hc;simp only[ag,beq_iff_eq]at hc;obtain⟨⟨Qj,Un⟩,hsk⟩:=hc;obtain⟨p,hp,rfl⟩:=iV.1 hx;obtain⟨lp,g1,g2⟩:=h.maps b p hp Qj Un;have Bf:(ax ρ m).ob p.c:=⟨b,p,hp,rfl,.inl Qj,Un⟩;unfold Instr.mapUpdate;rw[ar];refine aG ht ?_;simp only[];rw[ar];refine wq g1 (by intro _ _ _ h;cases h) rfl Bf ?_;simp only[];rw[ar];refine sU hkt ?_;rw[ar];refine Am hkt g2 hsk fun r hr=>?_
    split at hr
    ·rename_i i u hf;obtain⟨u',rfl,hu⟩:=hr;rw[hf]at ha;simp only[ah]at ha;subst ha;obtain⟨_,e,he1,he2⟩:=Ak hf;rw[Nat.sub_zero]at he1;obtain⟨e',akS,hee⟩:=g2.get he1;have akL:e'.key= .string s:=by have :=hee.1;rw[he2]at this;exact(aF (by rfl)).1 this
     have hold:((lp[i]?).map (·.key)).getD (.string s)= .string s:=by
      rw[show lp[i]?=some e' by simpa using akS];exact akL
     simp only[];rw[ar,hold];have agY:∀{Q:ae->ao->Prop},Q (.string s) w->dR P (ax ρ m) N (Instr.keyThatStays (.string s) (.string s)) Q w:=by
      intro Q hQ;unfold Instr.keyThatStays;rw[bj (by show(s==s)=true;exact bytes_beq.2 rfl)];exact hQ
     refine agY ?_;refine wo g1 (by intro _ _ _ h;cases h) (by intro _ _ _ h;cases h) rfl Bf ?_;refine hq _ (h.setObj hp (.inl Qj) (by rfl) g1 (by intro _ _ _ h;cases h) (by intro _ _ _ h;cases h) (fun _=>⟨_,rfl,?_⟩) (fun T9=>by have :(m.blk b).kind=3:=T9;omega));simp only[Array.toList_modify];exact IE g2 i fun a b w7=>⟨cj rfl,hv,w7.2.2⟩
    ·rename_i hf;subst hr;rw[hf]at ha;simp only[ah]at ha;subst ha;simp only[];refine wo g1 (by intro _ _ _ h;cases h) (by intro _ _ _ h;cases h) rfl Bf ?_;refine hq _ (h.setObj hp (.inl Qj) (by rfl) g1 (by intro _ _ _ h;cases h) (by intro _ _ _ h;cases h) (fun _=>⟨_,rfl,?_⟩) (fun T9=>by have :(m.blk b).kind=3:=T9;omega));simp only[Array.toList_push];exact g2.append ⟨⟨cj rfl,hv,rfl⟩,trivial⟩
   ·cases ha
  ·cases ha
 ·cases ha
theorem EA {t:aO}{z:ae}(hz:iw P t=some z):aQ ρ z z:=by
 have :=jE hz;refine cj ?_;cases z with
 |agg cs=>exact this.1
 |tuple cs=>exact absurd this.1 (by simp[ae.cells,de])
 |_=>simpa[plain,ae.cells]using this.1
theorem xm {x x' v:ae}{t a:aO}{ok:Bool}(hx:aQ ρ x x')(ha:qg P x t a ok=some v){R:Perm}
  {Q:ae->ao->Prop}(hq:∀v',aQ ρ v v'->Q v' w):dR P R N (Instr.typeAssert x' t a ok) Q w:=by
 unfold qg at ha
 split at ha
 ·cases ha
 ·rename_i d hni hd;obtain rfl:=(aF (by rfl)).1 hx;obtain⟨z,hz,rfl⟩:=az.1 ha;unfold Instr.typeAssert;rw[ar];refine aG hd ?_;cases d with
  |interface ms=>exact(hni _ rfl).elim
  |_=>
   simp only[if_true];rw[ar];refine fe hz ?_;exact hq _ (eQ.2 ⟨_,rfl,EA hz,cj rfl,trivial⟩)
 ·rename_i d dt u hni hd;obtain⟨u',rfl,hu⟩:=fO.1 hx;unfold Instr.typeAssert;rw[ar];refine aG hd ?_;cases d with
  |interface ms=>exact(hni _ rfl).elim
  |_=>
   simp only[if_true]
   split at ha
   ·rename_i ZH;rw[bj ZH];simp only[ah]at ha;subst ha;exact hq _ (eQ.2 ⟨_,rfl,hu,cj rfl,trivial⟩)
   ·rename_i ZH;rw[bW ZH];obtain⟨z,hz,rfl⟩:=az.1 ha;rw[ar];refine fe hz ?_;exact hq _ (eQ.2 ⟨_,rfl,EA hz,cj rfl,trivial⟩)
 ·cases ha
theorem fL.N2(h:fL ρ m w){k:dZ}{o:Obj}(hk:k.kind=2\/k.kind=3)(Mm:k.kind=2->∃lp,o= .map lp k.clock/\bH (yy ρ) k.es.toList lp.toList)(JA:k.kind=3->o= .stringIter k.str k.pos):
  Left ρ m w (ρ.put m.next ⟨w.heap.size,0,0,0⟩) (m.alloc k) {w with heap:=w.heap.push o}:=by
 have hn:=rm h;have j7:(m.alloc k).blk m.next={k with bK:=m.tick}:=by rw[Mem.cD,bj rfl]
 refine⟨dw.tS hn _,(h.bump k).lay hn du (o:=o) rfl rfl (fun h1=>?_) (fun h2=>?_) (fun h3=>?_),
  (mC (kK h _) rfl rfl rfl rfl _).trans (vT hn (aj _)),AX⟩
 ·rw[j7]at h1;simp at h1;omega
 ·rw[j7]at h2⊢;exact Mm h2
 ·rw[j7]at h3⊢;exact⟨rfl,JA h3⟩
theorem Gm (h:fL ρ m w){t:aO}{x x' v:ae}{m':Mem}(hx:aQ ρ x x')(ha:yO P t x m=some (v,m')){R:Perm}
  {Q:ae->ao->Prop}(hq:∀v' w' bq,Left ρ m w bq m' w'->aQ bq v v'->Q v' w'):dR P R N (Instr.range t x') Q w:=by
 unfold yO at ha
 split at ha
 ·rename_i s ht;obtain rfl:=(aF (by rfl)).1 hx;simp only[ah,au]at ha;obtain⟨rfl,rfl⟩:=ha;unfold Instr.range;rw[ar];refine aG ht ?_;simp only[pure_bind];rw[ar];refine LH ?_;exact hq _ _ _ (h.N2 (.inr rfl) g8 fun _=>rfl) (cP.2 ⟨_,dw.kr ..,rfl,rfl⟩)
 ·cases ha
theorem I3 (h:fL ρ m w){it it' v:ae}{isS:Bool}{ty:aO}{m':Mem}(hx:aQ ρ it it')(ha:EY it isS m=some (v,m'))
  {Q:ae->ao->Prop}(hq:∀v' w' bq,Left ρ m w bq m' w'->aQ bq v v'->Q v' w'):dR P (ax ρ m) N (Instr.next it' isS ty) Q w:=by
 unfold EY at ha
 split at ha
 ·rename_i b;obtain⟨p,hp,_,rfl⟩:=cP.1 hx;simp only[]at ha
  split at ha
  ·rename_i hc;simp only[ag,beq_iff_eq]at hc;obtain⟨g0,g1⟩:=h.kX b p hp hc.1 hc.2;have Bf:(ax ρ m).ob p.c:=⟨b,p,hp,rfl,.inr hc.1,hc.2⟩;unfold Instr.next;simp only[g0,Nat.zero_add];rw[ar];refine wq g1 (by intro _ _ _ h;cases h) rfl Bf ?_;simp only[]
   split at ha
   ·rename_i cB;rw[bj cB];simp only[ah,au]at ha;obtain⟨rfl,rfl⟩:=ha;rw[ar];refine wo g1 (by intro _ _ _ h;cases h) (by intro _ _ _ h;cases h) rfl Bf ?_;exact hq _ _ _ (h.setObj hp (.inr hc.1) (by rfl) g1 (by intro _ _ _ h;cases h) (by intro _ _ _ h;cases h) (fun h2=>by have :(m.blk b).kind=2:=h2;omega) fun _=>⟨g0,rfl⟩) (cj rfl)
   ·rename_i cB;rw[bW cB];simp only[ah,au]at ha;obtain⟨rfl,rfl⟩:=ha;exact hq _ _ _ (Left.refl h) (cj rfl)
  ·cases ha
 ·cases ha
end
end Go.AM
namespace Go.AM
open Go
section
variable {P:aC}{ρ:dw}{m:Mem}{w:ao}{N:Nat}
theorem zW {α:Type}{R:Perm}:∀{s:Sem α}{a:α},s.aM P=some a->∀{Q:α->ao->Prop},Q a w->dR P R N s Q w
 | .pure a,b,h,Q,hq=>by
  simp only[Sem.aM,ah]at h;subst h;exact hq
 | .program k,b,h,Q,hq=>zW (s:=k P) h hq
 | .load ..,_,h,_,_=>by simp[Sem.aM]at h
 | .store ..,_,h,_,_=>by simp[Sem.aM]at h
 | .new ..,_,h,_,_=>by simp[Sem.aM]at h
 | .shape ..,_,h,_,_=>by simp[Sem.aM]at h
 | .freeze ..,_,h,_,_=>by simp[Sem.aM]at h
 | .frozen ..,_,h,_,_=>by simp[Sem.aM]at h
 | .getObj ..,_,h,_,_=>by simp[Sem.aM]at h
 | .setObj ..,_,h,_,_=>by simp[Sem.aM]at h
 | .choose ..,_,h,_,_=>by simp[Sem.aM]at h
 | .sys ..,_,h,_,_=>by simp[Sem.aM]at h
 | .mark ..,_,h,_,_=>by simp[Sem.aM]at h
 | .halt ..,_,h,_,_=>by simp[Sem.aM]at h
def ain (ρ:dw)(v:ae)(nx:Next):Prop:=∃v',aQ ρ v v'/\(nx= .value v'\/(nx= .skip/\v=undef/\v'=undef))
def gy (P:aC)(ρ:dw)(m:Mem)(N:Nat)(s:Sem Next)(v:ae)(m':Mem)(w:ao):Prop:=
 dR P (ax ρ m) N s (fun nx w'=>∃bq,Left ρ m w bq m' w'/\ain bq v nx) w
variable {v:ae}{m':Mem}
theorem gy.val{s:Sem ae}(h:∀{Q:ae->ao->Prop},(∀v' w' bq,Left ρ m w bq m' w'->aQ bq v v'->Q v' w')->dR P (ax ρ m) N s Q w):gy P ρ m N (do pure (.value (<-s))) v m' w:=by
 unfold gy;rw[ar];exact h fun v' w' bq hL hv=>⟨bq,hL,v',hv,.inl rfl⟩
theorem gy.iJ(hs:fL ρ m w){s:Sem ae}(h:∀{Q:ae->ao->Prop},(∀v',aQ ρ v v'->Q v' w)->dR P (ax ρ m) N s Q w):gy P ρ m N (do pure (.value (<-s))) v m w:=
 gy.val fun hq=>h fun v' hv=>hq v' w ρ (Left.refl hs) hv
theorem gy.unit{s:Sem Unit}(h:∀{Q:Unit->ao->Prop},(∀w',Left ρ m w ρ m' w'->Q () w')->dR P (ax ρ m) N s Q w):gy P ρ m N (do s;pure .skip) undef m' w:=by
 unfold gy;rw[ar];exact h fun w' hL=>⟨ρ,hL,undef,mE,.inr ⟨rfl,rfl,rfl⟩⟩
theorem gy.now(hs:fL ρ m w){v':ae}(hv:aQ ρ v v'):gy P ρ m N (pure (.value v')) v m w:=⟨ρ,Left.refl hs,v',hv,.inl rfl⟩
theorem zZ {r r':ae}{name:String}{f:Nat}{recv:ae}(hr:aQ ρ r r')(hm:jQ P r name=some (f,recv)):
  ∃t u u' i mt e,r= .iface t u/\r'= .iface t u'/\recv=u/\aQ ρ u u'/\P.info? t=some i/\P.underlying t=some (.pointer e)/\i.methods.find? (·.name==name)=some mt/\mt.path.toList=[]/\mt.func=some (f,true):=by
 unfold jQ at hm
 split at hm
 ·rename_i t u;obtain⟨u',rfl,hu⟩:=fO.1 hr
  split at hm
  ·rename_i i e hi he
   split at hm
   ·rename_i mt hmt
    split at hm
    ·rename_i f' hp hf;simp only[ah,au]at hm;obtain⟨rfl,rfl⟩:=hm;exact⟨t,u,u',i,mt,e,rfl,rfl,rfl,hu,hi,he,hmt,hp,hf⟩
    ·cases hm
   ·cases hm
  ·cases hm
 ·cases hm
theorem AH {t:aO}{u':ae}{i:TypeInfo}{mt:Method}{name:String}{f n:Nat}(hi:P.info? t=some i)(hmt:i.methods.find? (·.name==name)=some mt)(hp:mt.path.toList=[])(hf:mt.func=some (f,true))
  {R:Perm}{Q:Option Bool->ao->Prop}(hq:Q (some false) w):dR P R N (nilAhead (n+1) t u' name) Q w:=by
 unfold nilAhead;rw[ar];refine gP hi ?_;rw[hmt];simp only[hp,followBlind,pure_bind];rw[hf];exact hq
theorem iS {op:BinOp}{t:aO}{x y:bS}{a b:ae}{R:Perm}{Q:Unit->ao->Prop}(h1:∀xs ys,a= .agg xs->b= .agg ys->False)(h2:a= .nilIface->b= .nilIface->(isConst x||isConst y)=true)(hq:Q () w):
  dR P R N (eqGuard op t x y a b) Q w:=by
 unfold eqGuard
 split
 ·rw[bW du]
  split
  ·have :=h2 rfl rfl;unfold isConst at this;rw[bj (by cases x<;>cases y<;>simp_all)];exact hq
  ·exact(h1 _ _ rfl rfl).elim
  ·exact hq
 ·rw[bW du]
  split
  ·have :=h2 rfl rfl;unfold isConst at this;rw[bj (by cases x<;>cases y<;>simp_all)];exact hq
  ·exact(h1 _ _ rfl rfl).elim
  ·exact hq
 ·exact hq
theorem An {t:aO}{xc yc:bS}{x x' y y':ae}{b:Bool}(hx:aQ ρ x x')(hy:aQ ρ y y')(he:rF P t (isConst xc) (isConst yc) x y=some b){R:Perm}:
  (∀{Q:Bool->ao->Prop},Q b w->dR P R N (Op.equal t x' y') Q w)/\(∀op {Q:Unit->ao->Prop},Q () w->dR P R N (eqGuard op t xc yc x' y') Q w)/\
  (∀op,binOp op t x' y'=match op with | .eql=>(do pure (.bool (<-Op.equal t x' y')))| .neq=>(do pure (.bool (!(<-Op.equal t x' y'))))|op=>binOp op t x' y'):=by
 unfold rF at he
 split at he
 ·rename_i e q hu;simp only[ah]at he;subst he;obtain rfl:=(aF (by rfl)).1 hx;have DJ:∃q',y'= .pointer q'/\q'.isNone=q.isNone:=by
   cases q with
   |none=>exact⟨none,(aF (by rfl)).1 hy,rfl⟩
   |some a=>obtain⟨p,_,_,rfl⟩:=cP.1 hy;exact⟨_,rfl,rfl⟩
  obtain⟨q',rfl,xU⟩:=DJ;refine⟨fun hQ=>?_,fun op Q hQ=>iS (fun _ _ h _=>by cases h) g8 hQ,fun op=>by cases op<;>rfl⟩;unfold Op.equal Op.maxDepth Op.equalIn;rw[ar];refine aG hu ?_
  show _
  rw[<-xU]at hQ;exact hQ
 ·rename_i e a hu;simp only[ah]at he;subst he;obtain⟨p,_,_,rfl⟩:=cP.1 hx;obtain rfl:=(aF (by rfl)).1 hy;refine⟨fun hQ=>?_,fun op Q hQ=>iS (fun _ _ h _=>by cases h) g8 hQ,fun op=>by cases op<;>rfl⟩;unfold Op.equal Op.maxDepth Op.equalIn;rw[ar];refine aG hu ?_;exact hQ
 ·rename_i e l c q l' c' hu;simp only[ah]at he;subst he;obtain rfl:=(aF (by rfl)).1 hx;have DJ:∃q' c'',y'= .slice q' l' c''/\q'.isNone=q.isNone:=by
   cases q with
   |none=>exact⟨none,_,(aF (by rfl)).1 hy,rfl⟩
   |some a=>obtain⟨p,_,_,_,rfl,_⟩:=bZ.1 hy;exact⟨_,_,rfl,rfl⟩
  obtain⟨q',c'',rfl,xU⟩:=DJ;refine⟨fun hQ=>?_,fun op Q hQ=>iS (fun _ _ h _=>by cases h) g8 hQ,fun op=>by cases op<;>rfl⟩;unfold Op.equal Op.maxDepth Op.equalIn;rw[ar];refine aG hu ?_;rw[<-xU]at hQ;exact hQ
 ·rename_i e a l c l' c' hu;simp only[ah]at he;subst he;obtain⟨p,_,_,_,rfl,_⟩:=bZ.1 hx;obtain rfl:=(aF (by rfl)).1 hy;refine⟨fun hQ=>?_,fun op Q hQ=>iS (fun _ _ h _=>by cases h) g8 hQ,fun op=>by cases op<;>rfl⟩;unfold Op.equal Op.maxDepth Op.equalIn;rw[ar];refine aG hu ?_;exact hQ
 ·rename_i ms hu
  split at he
  ·rename_i hc;simp only[ah]at he;subst he;obtain rfl:=(aF (by rfl)).1 hx;obtain rfl:=(aF (by rfl)).1 hy;refine⟨fun hQ=>?_,fun op Q hQ=>iS (fun _ _ h _=>by cases h) (fun _ _=>hc) hQ,fun op=>by cases op<;>rfl⟩;unfold Op.equal Op.maxDepth Op.equalIn;rw[ar];refine aG hu ?_;exact hQ
  ·cases he
 ·rename_i ms t2 u hu;simp only[ah]at he;subst he;obtain rfl:=(aF (by rfl)).1 hx;obtain⟨u',rfl,_⟩:=fO.1 hy;refine⟨fun hQ=>?_,fun op Q hQ=>iS (fun _ _ h _=>by cases h) (fun _ h=>by cases h) hQ,fun op=>by cases op<;>rfl⟩;unfold Op.equal Op.maxDepth Op.equalIn;rw[ar];refine aG hu ?_;exact hQ
 ·rename_i ms t2 u hu;simp only[ah]at he;subst he;obtain⟨u',rfl,_⟩:=fO.1 hx;obtain rfl:=(aF (by rfl)).1 hy;refine⟨fun hQ=>?_,fun op Q hQ=>iS (fun _ _ h _=>by cases h) g8 hQ,fun op=>by cases op<;>rfl⟩;unfold Op.equal Op.maxDepth Op.equalIn;rw[ar];refine aG hu ?_;exact hQ
 ·cases he
theorem D9 {ev oY:bS->ae}{o:gK}(dV:∀x∈o.op.operands,aQ ρ (ev x) (oY x))(ze:∀cs b,o.op≠ .select cs b)(hs:fL ρ m w)(h:dp P ev o=some v):gy P ρ m N (execOp oY o) v m w:=by
 unfold dp at h
 split at h
 ·rename_i hp;rw[Array.all_eq_true']at hp;have he:execOp oY o=execOp ev o:=execOp_congr o ze fun x hx=>KY (hp x hx) (dV x hx)
  rw[he]
  split at h
  ·rename_i u hu
   split at h
   ·rename_i dB;simp only[ah]at h;subst h;exact zW hu ⟨ρ,Left.refl hs,_,cj dB,.inl rfl⟩
   ·cases h
  ·cases h
 ·cases h
theorem yQ {ev oY:bS->ae}{ps:Array (Nat×bS)}(dV:∀x∈(ps.toList.map (·.2)).toArray,aQ ρ (ev x) (oY x)):
  bH (fun(a b:Nat×ae)=>b.1=a.1/\aQ ρ a.2 b.2) (ps.map fun(i,x)=>(i,ev x)).toList (ps.map fun(i,x)=>(i,oY x)).toList:=by
 simp only[Array.toList_map];refine bH.pF fun x hx=>⟨rfl,dV _ ?_⟩
 simp only[List.mem_toArray,List.mem_map];exact⟨x,hx,rfl⟩
theorem NM {ev oY:bS->ae}{x:Option bS}(dV:∀y∈x,aQ ρ (ev y) (oY y)):HO ρ (x.map ev) (x.map oY):=by
 cases x with
 |none=>trivial
 |some y=>exact dV y rfl
set_option maxHeartbeats 2000000 in
theorem EU{ev oY:bS->ae}{o:gK}(hs:fL ρ m w)(hN:N<=w.heap.size)(dV:∀x∈o.op.operands,aQ ρ (ev x) (oY x))(h:dE P ev o m=some (v,m')):gy P ρ m N (execOp oY o) v m' w:=by
 have dB:(∀cs b,o.op≠ .select cs b)->(dp P ev o).map (fun v=>(v,m))=some (v,m')->gy P ρ m N (execOp oY o) v m' w:=by
  intro ze hm;obtain⟨u,hu,he⟩:=az.1 hm;simp only[au]at he;obtain⟨rfl,rfl⟩:=he;exact D9 dV ze hs hu
 unfold dE at h
 split at h
 ·
  rename_i x ho;simp only[ho,Op.operands]at dV;simp only[ah,au]at h;obtain⟨rfl,rfl⟩:=h;simp only[execOp,ho];exact gy.now hs (dV x du)
 ·rename_i x ho;simp only[ho,Op.operands]at dV;simp only[ah,au]at h;obtain⟨rfl,rfl⟩:=h;simp only[execOp,ho];exact gy.now hs (dV x du)
 ·
  rename_i c a b ho;simp only[ho,Op.operands]at dV
  split at h
  ·rename_i t hc;simp only[ah,au]at h;obtain⟨rfl,rfl⟩:=h;have h1:=dV c du;rw[hc]at h1;have h1:=(aF (by rfl)).1 h1;simp only[execOp,ho,h1,asBool,pure_bind];refine gy.now hs ?_;cases t
   ·exact dV b du
   ·exact dV a du
  ·cases h
 ·
  rename_i e ho;obtain⟨z,hz,he⟩:=az.1 h;simp only[cC,au]at he;obtain⟨rfl,rfl⟩:=he;simp only[execOp,ho];refine gy.val fun hq=>?_
  unfold Instr.alloc;rw[ar];refine fe hz ?_
  show dR P (ax ρ m) N (do let a<-newVar e z;pure (ae.pointer (some a))) _ w
  rw[ar];exact Cc hs (sz:=0) (yH hz) fun w' bq hL hv=>hq _ _ _ hL hv
 ·
  rename_i e x ho;simp only[ho,Op.operands]at dV;simp only[cC,ah,au]at h;obtain⟨rfl,rfl⟩:=h;simp only[execOp,ho];refine gy.val fun hq=>?_
  unfold Instr.box
  show dR P (ax ρ m) N (do let a<-newVar e (oY x);pure (ae.pointer (some a))) _ w
  rw[ar];exact Cc hs (sz:=0) (dV x du).cells fun w' bq hL hv=>hq _ _ _ hL hv
 ·
  rename_i t ps ho;simp only[ho,Op.operands]at dV;obtain⟨u,hu,he⟩:=az.1 h;simp only[au]at he;obtain⟨rfl,rfl⟩:=he;simp only[execOp,ho];exact gy.iJ hs fun hq=>Hz (yQ dV) hu hq
 ·
  rename_i t n ps ho;simp only[ho,Op.operands]at dV;simp only[execOp,ho];exact gy.val fun hq=>yq hs (yQ dV) h hq
 ·
  rename_i t a ho;simp only[ho,Op.operands]at dV;obtain⟨u,hu,he⟩:=az.1 h;simp only[au]at he;obtain⟨rfl,rfl⟩:=he;simp only[execOp,ho];exact gy.iJ hs fun hq=>z7 hs (dV a du) hu hq
 ·
  rename_i t a x ho;simp only[ho,Op.operands]at dV;obtain⟨u,hu,he⟩:=az.1 h;simp only[au]at he;obtain⟨rfl,rfl⟩:=he;simp only[execOp,ho];exact gy.unit fun hq=>F7 hs (dV a du) (dV x du) hu hq
 ·
  rename_i x ho;simp only[ho,Op.operands]at dV;have h1:=dV x du
  split at h
  ·rename_i a hx;simp only[ah,au]at h;obtain⟨rfl,rfl⟩:=h;rw[hx]at h1;have h2:=cP.1 h1;obtain⟨p,_,_,h3⟩:=h2;simp only[execOp,ho,h3];rw[h3]at h1;exact gy.now hs h1
  ·rename_i name first cap hx
   split at h
   ·rename_i r hr
    split at h
    ·rename_i hm;simp only[ah,au]at h;obtain⟨rfl,rfl⟩:=h;rw[hx]at h1;obtain⟨f',c',h3,hf,mN⟩:=fN.1 h1;obtain⟨⟨f,recv⟩,hm⟩:=qU.1 hm;obtain⟨r',HT,hrr⟩:=hf.get (i:=0) (by simpa using hr);obtain⟨t,u,u',i,mt,e,rfl,rfl,_,hu,hi,_,hmt,hp,Qh⟩:=zZ hrr hm;simp only[execOp,ho,h3];rw[h3]at h1;have akx:(f'[0]?:Option ae)=some (.iface t u'):=by simpa using HT
     rw[akx];unfold gy;simp only[];rw[ar]
     show dR P (ax ρ m) N (nilAhead (P.types.size+Made.depth) t u' name>>=_) _ w
     rw[ar];have hd:∃k,P.types.size+Made.depth=k+1:=by
      have :Made.depth≠0:=eS;exact⟨P.types.size+Made.depth-1,ai⟩
     obtain⟨k,hk⟩:=hd;rw[hk];refine AH hi hmt hp Qh ?_;exact⟨ρ,Left.refl hs,_,h1,.inl rfl⟩
    ·cases h
   ·cases h
  ·cases h
 ·
  rename_i op t x y q ho;have ze:∀cs b,o.op≠ .select cs b:=fun cs b hc=>by rw[ho]at hc;cases hc
  have hx:aQ ρ (ev x) (oY x):=dV x (by rw[ho];simp[Op.operands]);have hy:aQ ρ (ev y) (oY y):=dV y (by rw[ho];simp[Op.operands])
  split at h
  ·split at h
   ·rename_i b hb;simp only[ah,au]at h;obtain⟨rfl,rfl⟩:=h;obtain⟨g1,g2,g3⟩:=An (N:=N) (w:=w) (R:=ax ρ m) hx hy hb;simp only[execOp,ho];refine gy.iJ hs fun hq=>?_
    rw[ar];refine g2 _ ?_;rw[g3];simp only[];rw[ar];exact g1 (hq _ (cj rfl))
   ·exact dB ze h
  ·split at h
   ·rename_i b hb;simp only[ah,au]at h;obtain⟨rfl,rfl⟩:=h;obtain⟨g1,g2,g3⟩:=An (N:=N) (w:=w) (R:=ax ρ m) hx hy hb;simp only[execOp,ho];refine gy.iJ hs fun hq=>?_
    rw[ar];refine g2 _ ?_;rw[g3];simp only[];rw[ar];exact g1 (hq _ (cj rfl))
   ·exact dB ze h
  ·exact dB ze h
 ·
  rename_i ho;exact dB (fun cs b hc=>by rw[ho]at hc;cases hc) h
 ·
  rename_i s d x ho
  split at h
  ·rename_i r hr;simp only[ah]at h;subst h;simp only[execOp,ho];exact gy.val fun hq=>C' hs hN (dV x (by rw[ho];simp[Op.operands])) hr hq
  ·exact dB (fun cs b hc=>by rw[ho]at hc;cases hc) h
 ·
  rename_i t x ho;simp only[ho,Op.operands]at dV
  split at h
  ·cases h
  ·rename_i d hni hd;simp only[ah,au]at h;obtain⟨rfl,rfl⟩:=h;simp only[execOp,ho];refine gy.iJ hs fun hq=>?_
   unfold Instr.makeInterface;rw[ar];refine aG hd ?_;have :=hq _ (fO.2 ⟨_,rfl,dV x du⟩);cases d with
   |interface ms=>exact(hni _ rfl).elim
   |_=>exact this
  ·cases h
 ·
  rename_i fn f c ho;simp only[ho,Op.operands]at dV;simp only[ah,au]at h;obtain⟨rfl,rfl⟩:=h;simp only[execOp,ho];refine gy.iJ hs fun hq=>?_
  refine hq _ (fN.2 ⟨_,_,rfl,?_,?_⟩)
  ·simp only[Array.toList_map];exact bH.pF fun x hx=>dV x (by simp;exact .inl (by simpa using hx))
  ·simp only[Array.toList_map];exact bH.pF fun x hx=>dV x (by simp;exact .inr (by simpa using hx))
 ·
  rename_i t ho;simp only[ah,au]at h;obtain⟨rfl,rfl⟩:=h;simp only[execOp,ho];refine gy.val fun hq=>?_
  refine hq _ _ _ (hs.N2 (o:= .map #[] 0) (.inl rfl) (fun _=>⟨#[],rfl,trivial⟩) fun h=>by cases h) (iV.2 ⟨_,dw.kr ..,rfl⟩)
 ·
  rename_i t l c ho;simp only[ho,Op.operands]at dV;simp only[execOp,ho];exact gy.val fun hq=>yW hs (dV l du) (dV c du) h hq
 ·
  rename_i t x lo hi ho
  split at h
  ·rename_i u hu;simp only[ah,au]at h;obtain⟨rfl,rfl⟩:=h;simp only[ho,Op.operands]at dV;simp only[execOp,ho];exact gy.iJ hs fun hq=>Gb hs (dV x du) (NM fun y hy=>dV y (by simp_all)) (NM fun y hy=>dV y (by simp_all)) hu hq
  ·exact dB (fun cs b hc=>by rw[ho]at hc;cases hc) h
 ·
  rename_i s x f ho;simp only[ho,Op.operands]at dV;obtain⟨u,hu,he⟩:=az.1 h;simp only[au]at he;obtain⟨rfl,rfl⟩:=he;simp only[execOp,ho];exact gy.iJ hs fun hq=>zo (dV x du) hu hq
 ·
  rename_i s x f ho;simp only[ho,Op.operands]at dV;obtain⟨u,hu,he⟩:=az.1 h;simp only[au]at he;obtain⟨rfl,rfl⟩:=he;simp only[execOp,ho];exact gy.iJ hs fun hq=>He (dV x du) hu hq
 ·
  rename_i t x i ho;simp only[ho,Op.operands]at dV;obtain⟨u,hu,he⟩:=az.1 h;simp only[au]at he;obtain⟨rfl,rfl⟩:=he;simp only[execOp,ho];exact gy.iJ hs fun hq=>y9 (dV x du) (dV i du) hu hq
 ·
  rename_i t x i ho
  split at h
  ·rename_i u hu;simp only[ah,au]at h;obtain⟨rfl,rfl⟩:=h;simp only[ho,Op.operands]at dV;simp only[execOp,ho];exact gy.iJ hs fun hq=>G2 (dV x du) (dV i du) hu hq
  ·exact dB (fun cs b hc=>by rw[ho]at hc;cases hc) h
 ·
  rename_i t x i ok ho;simp only[ho,Op.operands]at dV;obtain⟨u,hu,he⟩:=az.1 h;simp only[au]at he;obtain⟨rfl,rfl⟩:=he;simp only[execOp,ho];exact gy.iJ hs fun hq=>Ee hs (dV x du) (dV i du) hu hq
 ·
  rename_i t x k u ho;simp only[ho,Op.operands]at dV;obtain⟨m2,hm,he⟩:=az.1 h;simp only[au]at he;obtain⟨rfl,rfl⟩:=he;simp only[execOp,ho];exact gy.unit fun hq=>yV hs (dV x du) (dV k du) (dV u du) hm hq
 ·
  rename_i x t a ok ho;simp only[ho,Op.operands]at dV;obtain⟨u,hu,he⟩:=az.1 h;simp only[au]at he;obtain⟨rfl,rfl⟩:=he;simp only[execOp,ho];exact gy.iJ hs fun hq=>xm (dV x du) hu hq
 ·
  rename_i t i ho;simp only[ho,Op.operands]at dV
  split at h
  ·rename_i vs Qa;obtain⟨u,hu,he⟩:=az.1 h;simp only[au]at he;obtain⟨rfl,rfl⟩:=he;have h1:=dV t du;rw[Qa]at h1;obtain⟨qV,h2,h3⟩:=eQ.1 h1;obtain⟨u',TT,hr⟩:=h3.get (by simpa using hu);simp only[execOp,ho,h2];refine gy.iJ hs fun hq=>?_
   unfold Instr.extract;simp only[show qV[i]?=some u' by simpa using TT];exact hq _ hr
  ·cases h
 ·
  rename_i t x ho;simp only[ho,Op.operands]at dV;simp only[execOp,ho];exact gy.val fun hq=>Gm hs (dV x du) h hq
 ·
  rename_i it s ho;simp only[ho,Op.operands]at dV;simp only[execOp,ho];exact gy.val fun hq=>I3 hs (dV it du) h hq
 ·
  rename_i b args kW ho;have hb:∀x∈args,aQ ρ (ev x) (oY x):=fun x hx=>dV x (by rw[ho];simp[Op.operands,Call.operands,hx])
  have ze:∀cs b,o.op≠ .select cs b:=fun cs b hc=>by rw[ho]at hc;cases hc
  split at h
  ·rename_i s x ha;have vO:args.map oY=#[oY s,oY x]:=by apply Array.ext';simp[ha]
   have h1:=hb s (by rw[<-Array.mem_toList_iff,ha];simp);have h2:=hb x (by rw[<-Array.mem_toList_iff,ha];simp);simp only[execOp,ho,resolve,pure_bind,invoke,builtin,vO];exact gy.val fun hq=>Eu hs h1 h2 h hq
  ·rename_i s x ha;have vO:args.map oY=#[oY s,oY x]:=by apply Array.ext';simp[ha]
   have h1:=hb s (by rw[<-Array.mem_toList_iff,ha];simp);have h2:=hb x (by rw[<-Array.mem_toList_iff,ha];simp);simp only[execOp,ho,resolve,pure_bind,invoke,builtin,vO];exact gy.val fun hq=>J1 hs h1 h2 h hq
  ·rename_i x ha;have vO:args.map oY=#[oY x]:=by apply Array.ext';simp[ha]
   have h2:=hb x (by rw[<-Array.mem_toList_iff,ha];simp);simp only[execOp,ho,resolve,pure_bind,invoke,builtin,vO];exact gy.val fun hq=>Hu hs h2 h hq
  ·rename_i x ha;have vO:args.map oY=#[oY x]:=by apply Array.ext';simp[ha]
   have h2:=hb x (by rw[<-Array.mem_toList_iff,ha];simp)
   split at h
   ·rename_i e base n c he hx;simp only[ah,au]at h;obtain⟨rfl,rfl⟩:=h;rw[hx]at h2;obtain⟨uz,gC,h3,_⟩:=qF.of h2;obtain⟨st,Mh,fp⟩:=bC.1 he;simp only[execOp,ho,resolve,pure_bind,invoke,builtin,vO];refine gy.iJ hs fun hq=>?_
    unfold Builtin.len_;simp only[Mh,h3,List.getElem?_toArray,List.getElem?_cons_zero];rw[ar];refine aG fp ?_;exact hq _ (cj rfl)
   ·exact dB ze h
  ·exact dB ze h
  ·exact dB ze h
  ·cases h
 ·cases h
end
end Go.AM
namespace Go.AM
open Go
def HS (m:Mem)(b:Nat)(k':dZ):Prop:=
 m.next<=b\/(m.base<=b/\aJ m.bh b=false/\(m.floor<=b\/gI m.opn b=true)/\k'.kind=0)\/
 (m.home<=b/\aJ m.bh b=false/\(m.blk b).kind≠1/\k'.kind=(m.blk b).kind)\/
 (m.base<=b/\(m.blk b).kind=1/\k'.kind=1/\k'.sz=(m.blk b).sz/\k'.pos=(m.blk b).pos/\k'.cs.length=(m.blk b).cs.length/\
  ∀o:Nat,k'.cs[o]?≠(m.blk b).cs[o]?->bz m.bh b o=false/\(m.floor<=b\/bz m.opn b o=true))
structure Fr (m m':Mem):Prop where
 rest:m'={m with heap:=m'.heap,next:=m'.next,tick:=m'.tick,deaf:=m'.deaf}
 tick:m.tick<=m'.tick
 next:m.next<=m'.next
 blk:∀b,m'.blk b=m.blk b\/(m.tick<=(m'.blk b).bK/\HS m b (m'.blk b))
section
variable {m m₁ m₂:Mem}
theorem Fr.refl(m:Mem):Fr m m:=⟨rfl,aj _,aj _,fun _=> .inl rfl⟩
theorem Fr.bh(h:Fr m m₁):m₁.bh=m.bh:=by rw[h.rest]
theorem Fr.home(h:Fr m m₁):m₁.home=m.home:=by rw[h.rest]
theorem Fr.base(h:Fr m m₁):m₁.base=m.base:=by rw[h.rest]
theorem Fr.floor(h:Fr m m₁):m₁.floor=m.floor:=by rw[h.rest]
theorem Fr.opn(h:Fr m m₁):m₁.opn=m.opn:=by rw[h.rest]
theorem Fr.wg(h:Fr m m₁):m₁.wg=m.wg:=by rw[h.rest]
theorem Fr.pend(h:Fr m m₁):m₁.pend=m.pend:=by rw[h.rest]
theorem Fr.trans(h:Fr m m₁)(k:Fr m₁ m₂):Fr m m₂:=by
 refine⟨?_,bV h.tick k.tick,bV h.next k.next,fun b=>?_⟩
 ·rw[k.rest,h.rest]
 ·have e1:=h.bh;have e2:=h.home;have e3:=h.base;have e4:=h.floor;have e5:=h.opn;rcases k.blk b with hk|⟨vM,Jy⟩
  ·rw[hk];exact h.blk b
  ·refine .inr ⟨bV h.tick vM,?_⟩;unfold HS at Jy;rw[e1,e2,e3,e4,e5]at Jy;have hn:=h.next;rcases h.blk b with hb|⟨_,hb⟩
   ·rw[hb]at Jy;rcases Jy with h1|h1
    ·exact .inl ai
    ·exact .inr h1
   ·rcases Jy with h1|h1|⟨h1,h2,h3,h4⟩|⟨h1,h2,h3,h4,h4p,h5,h6⟩
    ·exact .inl ai
    ·exact .inr (.inl h1)
    ·rcases hb with g|g|⟨g1,g2,g3,g4⟩|⟨g1,g2,g3,_,_⟩
     ·exact .inl g
     ·exact .inr (.inl ⟨g.1,g.2.1,g.2.2.1,by rw[h4,g.2.2.2]⟩)
     ·exact .inr (.inr (.inl ⟨g1,g2,g3,by rw[h4,g4]⟩))
     ·exact absurd g3 h3
    ·rcases hb with g|g|⟨g1,g2,g3,g4⟩|⟨g1,g2,g3,g4,g4p,g5,g6⟩
     ·exact .inl g
     ·exact absurd (g.2.2.2.symm.trans h2) du
     ·exact absurd (g4.symm.trans h2) g3
     ·refine .inr (.inr (.inr ⟨g1,g2,h3,h4.trans g4,h4p.trans g4p,h5.trans g5,fun o ho=>?_⟩))
      by_cases hc:(m₂.blk b).cs[o]?=(m₁.blk b).cs[o]?
      ·exact g6 o (by rw[<-hc];exact ho)
      ·exact h6 o hc
theorem Fr.alloc(m:Mem)(k:dZ):Fr m (m.alloc k):=by
 refine⟨rfl,du,du,fun b=>?_⟩;rw[Mem.cD]
 split
 ·rename_i h;exact .inr ⟨aj _,.inl ai⟩
 ·exact .inl rfl
theorem Fr.a9{b:Nat}{k:dZ}(h:HS m b {k with bK:=m.tick}):Fr m (m.a9 b k):=by
 refine⟨rfl,du,du,fun b'=>?_⟩;rw[Mem.eC]
 split
 ·rename_i e;subst e;exact .inr ⟨aj _,h⟩
 ·exact .inl rfl
theorem Fr.dP{b o:Nat}{vs:List ae}(h:m.dP b o vs=some m₁):Fr m m₁:=by
 obtain⟨cs,rfl,hk,Jw,CJ,_⟩:=Mem.qi h;obtain⟨hl,hg,_⟩:=lF CJ;refine Fr.a9 (.inr (.inr (.inr ⟨Mem.ku Jw,hk,hk,rfl,rfl,hl,fun x hx=>?_⟩)));have vp:cs[x]?≠(m.blk b).cs[x]?:=hx;rw[hg]at vp
 split at vp
 ·rename_i ml;have :=Mem.qM Jw (i:=x-o) ai;rwa[show o+(x-o)=x by omega]at this
 ·exact absurd rfl vp
theorem Fr.own{b:Nat}(h:m.fA b=true):Fr m (m.a9 b {}):=
 Fr.a9 (.inr (.inl ⟨Mem.r7 h,(Mem.lK h).1,(Mem.lK h).2,rfl⟩))
theorem Mem.lJ{b:Nat}(h:m.bI b=true):aJ m.bh b=false/\m.home<=b:=by
 unfold Mem.bI at h;simpa using h
theorem Fr.obj{b:Nat}{k:dZ}(h:m.bI b=true)(hk:(m.blk b).kind≠1)(OC:k.kind=(m.blk b).kind):Fr m (m.a9 b k):=
 Fr.a9 (.inr (.inr (.inl ⟨(Mem.lJ h).2,(Mem.lJ h).1,hk,OC⟩)))
def dZ.live(k:dZ):Prop:=(∀x∈k.cs,x≠none)/\k.kind<=3
structure Wf (m:Mem):Prop where
 bK:∀b,(m.blk b).bK<m.tick
 x8:∀b,m.next<=b->(m.blk b).kind=0
 bh:∀s∈m.bh,s.2.1<=m.next
 fl:m.floor<=m.next
 live:∀b,(m.blk b).live
theorem Wf.alloc(h:Wf m)(k:dZ)(XE:k.live):Wf (m.alloc k):=by
 refine⟨fun b=>?_,fun b hb=>?_,fun s hs=>Nat.le_succ_of_le (h.bh s hs),Nat.le_succ_of_le h.fl,fun b=>?_⟩
 ·rw[Mem.cD]
  split
  ·show m.tick<m.tick+1;omega
  ·have :=h.bK b;show _<m.tick+1;omega
 ·have gA:m.next+1<=b:=hb;rw[Mem.cD,bW ai];exact h.x8 b ai
 ·rw[Mem.cD]
  split
  ·exact XE
  ·exact h.live b
theorem Wf.a9(h:Wf m){b:Nat}{k:dZ}(hk:(m.blk b).kind≠0\/k.kind=0)(XE:k.live):Wf (m.a9 b k):=by
 refine⟨fun b'=>?_,fun b' hb=>?_,h.bh,h.fl,fun b'=>?_⟩
 ·rw[Mem.eC]
  split
  ·show m.tick<m.tick+1;omega
  ·have :=h.bK b';show _<m.tick+1;omega
 ·rw[Mem.eC]
  split
  ·rename_i e;subst e;rcases hk with hk|hk
   ·exact absurd (h.x8 b hb) hk
   ·exact hk
  ·exact h.x8 b' hb
 ·rw[Mem.eC]
  split
  ·exact XE
  ·exact h.live b'
def jg (m m':Mem):Prop:=Fr m m'/\m'.deaf=m.deaf/\(Wf m->Wf m')
theorem jg.refl(m:Mem):jg m m:=⟨Fr.refl m,rfl,id⟩
theorem jg.trans(h:jg m m₁)(k:jg m₁ m₂):jg m m₂:=⟨h.1.trans k.1,k.2.1.trans h.2.1,fun x=>k.2.2 (h.2.2 x)⟩
theorem jg.alloc(m:Mem)(k:dZ)(hk:k.live):jg m (m.alloc k):=⟨Fr.alloc m k,rfl,fun h=>h.alloc k hk⟩
theorem jg.dP{b o:Nat}{vs:List ae}(h:m.dP b o vs=some m₁):jg m m₁:=by
 refine⟨Fr.dP h,?_⟩;obtain⟨cs,rfl,hk,Jw,CJ,_⟩:=Mem.qi h;obtain⟨hl,hg,_⟩:=lF CJ;refine⟨rfl,fun hw=>hw.a9 (.inl (by rw[hk];simp)) ⟨fun x hx=>?_,by show(m.blk b).kind<=3;omega⟩⟩;have hx:x∈cs:=hx;obtain⟨i,hi⟩:=List.getElem?_of_mem hx;rw[hg]at hi
 split at hi
 ·rename_i ml;obtain⟨v,hv⟩:∃v,vs[i-o]?=some v:=⟨vs[i-o]'ai,List.getElem?_eq_getElem ai⟩;rw[hv]at hi;simp at hi;rw[<-hi];simp
 ·exact(hw.live b).1 x (List.mem_of_getElem? hi)
theorem jg.own{b:Nat}(h:m.fA b=true):jg m (m.a9 b {}):=⟨Fr.own h,rfl,fun hw=>hw.a9 (.inr rfl) ⟨(by intro x hx;cases hx),Nat.zero_le _⟩⟩
theorem jg.obj{b:Nat}{k:dZ}(h:m.bI b=true)(hk:(m.blk b).kind≠1)(Ah:(m.blk b).kind≠0)(OC:k.kind=(m.blk b).kind)(gT:k.cs=(m.blk b).cs):jg m (m.a9 b k):=⟨Fr.obj h hk OC,rfl,fun hw=>hw.a9 (.inl Ah) ⟨fun x hx=>(hw.live b).1 x (gT▸hx),by rw[OC];exact(hw.live b).2⟩⟩
variable {P:aC}{v:ae}
theorem M0 {kW:Array aO}{s x:ae}(h:cZ P kW s x m=some (v,m₁)):jg m m₁:=by
 unfold cZ at h
 split at h
 ·split at h
  ·split at h
   ·cases h
   ·split at h
    ·cases h
    ·split at h
     ·split at h
      ·simp only[]at h
       split at h
       ·rename_i hk;simp only[ag,beq_iff_eq]at hk
        split at h
        ·simp only[ah,au]at h;obtain⟨_,rfl⟩:=h;exact(jg.own hk.1.2).trans (jg.alloc _ _ Vp)
        ·cases h
       ·cases h
      ·cases h
     ·split at h
      ·split at h
       ·obtain⟨m2,yC,he⟩:=az.1 h;simp only[au]at he;obtain⟨_,rfl⟩:=he;exact jg.dP yC
       ·simp only[ah,au]at h;obtain⟨_,rfl⟩:=h;exact jg.refl _
       ·cases h
      ·split at h
       ·split at h
        ·simp only[ah,au]at h;obtain⟨_,rfl⟩:=h;exact jg.alloc _ _ Vp
        ·cases h
       ·cases h
  ·cases h
 ·cases h
theorem UR {kW:Array aO}{d s:ae}(h:Fz P kW d s m=some (v,m₁)):jg m m₁:=by
 unfold Fz at h
 split at h
 ·split at h
  ·split at h
   ·obtain⟨_,_,h⟩:=bC.1 h
    split at h
    ·obtain⟨m2,yC,he⟩:=az.1 h;simp only[au]at he;obtain⟨_,rfl⟩:=he;exact jg.dP yC
    ·simp only[ah,au]at h;obtain⟨_,rfl⟩:=h;exact jg.refl _
    ·cases h
   ·cases h
  ·cases h
 ·cases h
theorem QA {kW:Array aO}{x:ae}(h:j8 P kW x m=some (v,m₁)):jg m m₁:=by
 unfold j8 at h
 split at h
 ·split at h
  ·simp only[ah,au]at h;obtain⟨_,rfl⟩:=h;exact jg.refl _
  ·split at h
   ·simp only[ah,au]at h;obtain⟨_,rfl⟩:=h;exact jg.refl _
   ·obtain⟨_,_,h⟩:=bC.1 h;obtain⟨m2,yC,he⟩:=az.1 h;simp only[au]at he;obtain⟨_,rfl⟩:=he;exact jg.dP yC
  ·cases h
 ·cases h
theorem J2 {s d:aO}{x:ae}(h:fK P s d x m=some (v,m₁)):jg m m₁:=by
 unfold fK at h
 split at h
 ·simp only[]at h
  split at h
  ·split at h
   ·simp only[ah,au]at h;obtain⟨_,rfl⟩:=h;exact jg.refl _
   ·cases h
  ·cases h
 ·split at h
  ·split at h
   ·cases h
   ·simp only[ah,au]at h;obtain⟨_,rfl⟩:=h;exact jg.alloc _ _ Vp
  ·cases h
 ·split at h
  ·simp only[ah,au]at h;obtain⟨_,rfl⟩:=h;exact jg.refl _
  ·obtain⟨_,_,h⟩:=bC.1 h;obtain⟨_,_,h⟩:=az.1 h;simp only[au]at h;obtain⟨_,rfl⟩:=h;exact jg.refl _
  ·cases h
 ·cases h
theorem Eb {t:aO}{x k u:ae}(h:kT P t x k u m=some m₁):jg m m₁:=by
 unfold kT at h
 split at h
 ·split at h
  ·simp only[]at h
   split at h
   ·rename_i hc;simp only[ag,beq_iff_eq]at hc;have h1:=hc.1.1;have h2:=hc.1.2
    split at h
    ·simp only[ah]at h;subst h;exact jg.obj h2 ai ai rfl rfl
    ·simp only[ah]at h;subst h;exact jg.obj h2 ai ai rfl rfl
   ·cases h
  ·cases h
 ·cases h
theorem PG {t:aO}{x:ae}(h:yO P t x m=some (v,m₁)):jg m m₁:=by
 unfold yO at h
 split at h
 ·simp only[ah,au]at h;obtain⟨_,rfl⟩:=h;exact jg.alloc _ _ Vp
 ·cases h
theorem S0 {it:ae}{s:Bool}(h:EY it s m=some (v,m₁)):jg m m₁:=by
 unfold EY at h
 split at h
 ·simp only[]at h
  split at h
  ·rename_i hc;simp only[ag,beq_iff_eq]at hc
   split at h
   ·simp only[ah,au]at h;obtain⟨_,rfl⟩:=h;exact jg.obj hc.2 ai ai rfl rfl
   ·simp only[ah,au]at h;obtain⟨_,rfl⟩:=h;exact jg.refl _
  ·cases h
 ·cases h
theorem gB {o:Option ae}(h:o.map (fun v=>(v,m))=some (v,m₁)):jg m m₁:=by
 obtain⟨_,_,he⟩:=az.1 h;simp only[au]at he;obtain⟨_,rfl⟩:=he;exact jg.refl _
theorem kF {u:ae}(h:some (u,m)=some (v,m₁)):jg m m₁:=by
 simp only[ah,au]at h;obtain⟨_,rfl⟩:=h;exact jg.refl _
theorem Pv {t:aO}{p x:ae}(h:v8 P t p x m=some m₁):jg m m₁:=by
 unfold v8 at h
 split at h
 ·split at h
  ·exact jg.dP h
  ·cases h
 ·cases h
theorem zX {sz:Nat}{cs:List ae}(h:cC m sz cs=(v,m₁)):jg m m₁:=by
 simp only[cC,au]at h;obtain⟨_,rfl⟩:=h;exact jg.alloc _ _ Vp
theorem OM {o:Option Mem}(ho:∀m₂,o=some m₂->jg m m₂)(h:o.map (fun m'=>(undef,m'))=some (v,m₁)):jg m m₁:=by
 obtain⟨m2,hm,he⟩:=az.1 h;simp only[au]at he;obtain⟨_,rfl⟩:=he;exact ho _ hm
theorem Dk {t:aO}{n:Nat}{ps:List (Nat×ae)}(h:bY P t n ps m=some (v,m₁)):jg m m₁:=by
 unfold bY at h
 split at h
 ·split at h
  ·split at h
   ·cases h
   ·obtain⟨_,_,he⟩:=az.1 h;simp only[au]at he;obtain⟨_,rfl⟩:=he;exact jg.alloc _ _ Vp
  ·cases h
 ·cases h
theorem Ec {t:aO}{l c:ae}(h:fP P t l c m=some (v,m₁)):jg m m₁:=by
 unfold fP at h
 split at h
 ·split at h
  ·split at h
   ·simp only[ah,au]at h;obtain⟨_,rfl⟩:=h;exact jg.alloc _ _ Vp
   ·cases h
  ·cases h
 ·cases h
set_option maxHeartbeats 1000000 in
theorem SC{ev:bS->ae}{o:gK}(h:dE P ev o m=some (v,m₁)):jg m m₁:=by
 unfold dE at h
 split at h
 ·exact kF h
 ·exact kF h
 ·split at h
  ·exact kF h
  ·cases h
 ·obtain⟨z,hz,he⟩:=az.1 h;exact zX he
 ·exact zX (Option.some.inj h)
 ·exact gB h
 ·exact Dk h
 ·exact gB h
 ·exact OM (fun _ hm=>Pv hm) h
 ·split at h
  ·exact kF h
  ·split at h
   ·split at h
    ·exact kF h
    ·cases h
   ·cases h
  ·cases h
 ·split at h
  ·split at h
   ·exact kF h
   ·exact gB h
  ·split at h
   ·exact kF h
   ·exact gB h
  ·exact gB h
 ·exact gB h
 ·split at h
  ·rename_i hr;exact J2 (hr.trans h)
  ·exact gB h
 ·split at h
  ·cases h
  ·exact kF h
  ·cases h
 ·exact kF h
 ·simp only[ah,au]at h;obtain⟨_,rfl⟩:=h;exact jg.alloc _ _ Vp
 ·exact Ec h
 ·split at h
  ·exact kF h
  ·exact gB h
 ·exact gB h
 ·exact gB h
 ·exact gB h
 ·split at h
  ·exact kF h
  ·exact gB h
 ·exact gB h
 ·exact OM (fun _ hm=>Eb hm) h
 ·exact gB h
 ·split at h
  ·exact gB h
  ·cases h
 ·exact PG h
 ·exact S0 h
 ·split at h
  ·exact M0 h
  ·exact UR h
  ·exact QA h
  ·split at h
   ·exact kF h
   ·exact gB h
  ·exact gB h
  ·exact gB h
  ·cases h
 ·cases h
end
end Go.AM
namespace Go.AM
open Go
structure dm where
 ok:Perm->ao->Prop
inductive Sub where
 |opn(V:Nat)|added(V:Nat)|seen(vs:Nat)|reg|Uu|fin
structure GS where
 Wg:Nat
 vG:List dm
 sub:Sub
inductive nz where
 |Br
 |idle
 |fD(g:GS)
structure ads (s:AT)(mk:Mem):Prop where
 heap:mk.heap=s.heap
 next:mk.next=s.hi
 opn:mk.opn=s.oL
 bh:mk.bh=s.bh
 home:mk.home=s.lo
 floor:mk.floor=s.lo
 base:mk.base<=s.lo
def postOf (s:AT)(Pg:dw):dm:=
 ⟨fun R w=>∃yG mk,ads s mk/\(∀b,b<s.lo->yG b=Pg b)/\fL yG mk w/\(∀b o,(ax yG mk).rd b o->R.rd b o)/\(∀b,(ax yG mk).ob b->R.ob b)/\∀b o,(ax yG mk).wr b o->R.wr b o⟩
def dZ.alike(k k':dZ):Prop:=k.kind=k'.kind/\k.sz=k'.sz/\k.pos=k'.pos/\k.cs=k'.cs/\(k.kind≠1->k.es=k'.es/\k.clock=k'.clock/\k.str=k'.str)
def Mem.BJ(m:Mem)(h:iU)(s:Span):Prop:=
 ∀b,s.1<=b->b<s.2.1->match s.2.2 with
 |none=>(m.blk b).alike (h.get b)
 |some o=>(m.blk b).kind=1/\(h.get b).kind=1/\(m.blk b).sz=(h.get b).sz/\(m.blk b).pos=(h.get b).pos/\(m.blk b).cs.length=(h.get b).cs.length/\(m.blk b).cs[o]?=(h.get b).cs[o]?
structure SOk (m:Mem)(ρ:dw)(s:AT)(p:dm):Prop where
 post:∃Pg,p=postOf s Pg/\∀b,b<s.lo->ρ b=Pg b
 none:∀b,s.lo<=b->b<s.hi->ρ b=Option.none
 lo:s.lo<=s.hi
 hi:s.hi<=m.floor
 next:s.hi<=m.next
 same:∀x,x=(s.lo,s.hi,Option.none)\/x∈s.oL->m.BJ s.heap x
 bh:∀x,x=(s.lo,s.hi,Option.none)\/x∈s.oL->x∈m.bh
 below:∀x,x=(s.lo,s.hi,Option.none)\/x∈s.oL->x.2.1<=m.next
 lb:∀x,x∈s.bh\/x∈s.oL->x.2.1<=s.lo
 ap:∀b o,bz s.oL b o=true->bz s.bh b o=false
 lk:∀x,x∈s.oL->∀b,x.1<=b->b<x.2.1->(s.heap.get b).kind<=1
 live:∀b,(s.heap.get b).live
 kk:∀b,b<s.lo->(m.blk b).kind≠0->(s.heap.get b).kind=(m.blk b).kind
 hm:m.home<=s.lo
def GOk (σ:nz)(ρ:dw)(m:Mem):Prop:=
 match σ with
 | .Br=>True
 | .idle=>m.wg=none/\m.pend=[]/\m.home<=m.next
 | .fD g=>g.sub= .opn g.vG.length/\g.vG.length<=4/\(m.home<=m.next/\m.base<=m.next)/\∃wa,m.wg=some wa/\wa<m.next/\wa<m.floor/\(∀p,ρ wa=some p->p.c=g.Wg/\p.d=0)/\bH (SOk m ρ) m.pend g.vG/\(∀x∈m.bh,∃s∈m.pend,x=(s.lo,s.hi,Option.none)\/x∈s.oL)/\m.pend.Pairwise fun s t=>t.hi<=s.lo
section
variable {m m':Mem}{ρ bq:dw}
theorem mQ {l:List Span}{s:Span}(h:s∈l){b o:Nat}(h1:s.1<=b)(h2:b<s.2.1)(h3:s.2.2=none\/s.2.2=some o):bz l b o=true:=by
 unfold bz;rw[List.any_eq_true];refine⟨s,h,?_⟩;simp only[ag,iB];refine⟨⟨h1,h2⟩,?_⟩;rcases h3 with h3|h3<;>rw[h3]<;>simp
theorem qh {l:List Span}{s:Span}(h:s∈l){b:Nat}(h1:s.1<=b)(h2:b<s.2.1):aJ l b=true:=by
 unfold aJ;rw[List.any_eq_true];exact⟨s,h,by simp[h1,h2]⟩
theorem Er {l:List Span}{s:Span}(h:s∈l){b:Nat}(h1:s.1<=b)(h2:b<s.2.1)(h3:s.2.2=none):∀o,bz l b o=true:=fun o=>mQ h h1 h2 (.inl h3)
theorem lT {l:List Span}{b o:Nat}(h:bz l b o=true):aJ l b=true:=by
 rcases ht:aJ l b with _|_
 ·rw[dW ht]at h;cases h
 ·rfl
theorem zN (h:Fr m m'){x:Span}(hx:x∈m.bh)(HU:x.2.1<=m.next){hp:iU}(hs:m.BJ hp x):m'.BJ hp x:=by
 intro b h1 h2;have hs:=hs b h1 h2
 split
 ·rename_i hn;simp only[hn]at hs;rcases h.blk b with e|⟨_,ha⟩
  ·rw[e];exact hs
  ·have Ot:=qh hx h1 h2;rcases ha with h3|⟨_,h3,_⟩|⟨_,h3,_⟩|⟨_,h3,h4,h5,h6,h7,h8⟩
   ·omega
   ·rw[Ot]at h3;cases h3
   ·rw[Ot]at h3;cases h3
   ·obtain⟨g1,g2,g3,g4,g5⟩:=hs;refine⟨h4.trans (h3.symm.trans g1),h5.trans g2,h6.trans g3,?_,fun hk=>absurd h4 hk⟩;rw[<-g4];refine List.ext_getElem? fun o=>?_
    by_cases hc:(m'.blk b).cs[o]?=(m.blk b).cs[o]?
    ·exact hc
    ·have :=(h8 o hc).1;rw[Er hx h1 h2 hn o]at this;cases this
 ·rename_i o ho;simp only[ho]at hs;obtain⟨g1,g2,g3,g4,g5,g6⟩:=hs;rcases h.blk b with e|⟨_,ha⟩
  ·rw[e];exact⟨g1,g2,g3,g4,g5,g6⟩
  ·have Ot:=qh hx h1 h2;rcases ha with h3|⟨_,h3,_⟩|⟨_,h3,_⟩|⟨_,h3,h4,h5,h6,h7,h8⟩
   ·omega
   ·rw[Ot]at h3;cases h3
   ·rw[Ot]at h3;cases h3
   ·refine⟨h4,g2,h5.trans g3,h6.trans g4,h7.trans g5,?_⟩
    by_cases hc:(m'.blk b).cs[o]?=(m.blk b).cs[o]?
    ·rw[hc];exact g6
    ·have :=(h8 o hc).1;rw[mQ hx h1 h2 (.inr ho)]at this;cases this
theorem SOk.fr(h:Fr m m')(hle:ρ.le bq)(hold:∀b,b<m.next->bq b=ρ b){s:AT}{p:dm}(hs:SOk m ρ s p):SOk m' bq s p where
 post:=let⟨Pg,e,hb⟩:=hs.post;⟨Pg,e,fun b JF=>by rw[hold b (by have :=hs.lo;have :=hs.next;omega)];exact hb b JF⟩
 none b h1 h2:=by rw[hold b (by have :=hs.next;omega)];exact hs.none b h1 h2
 lo:=hs.lo
 hi:=by rw[h.floor];exact hs.hi
 next:=bV hs.next h.next
 same x hx:=zN h (hs.bh x hx) (hs.below x hx) (hs.same x hx)
 bh x hx:=by rw[h.bh];exact hs.bh x hx
 below x hx:=bV (hs.below x hx) h.next
 lb:=hs.lb
 ap:=hs.ap
 lk:=hs.lk
 live:=hs.live
 kk b hb hk:=by
  rcases h.blk b with e|⟨_,ha⟩
  ·rw[e]at hk⊢;exact hs.kk b hb hk
  ·have :=hs.lo;have :=hs.next;rcases ha with h3|⟨_,_,_,h3⟩|⟨_,_,_,h3⟩|⟨_,h3,h4,_⟩
   ·omega
   ·exact absurd h3 hk
   ·rw[h3];exact hs.kk b hb (by rw[<-h3];exact hk)
   ·rw[h4,<-h3];exact hs.kk b hb (by rw[h3];simp)
 hm:=by rw[h.home];exact hs.hm
theorem GOk.fr(h:Fr m m')(hle:ρ.le bq)(hold:∀b,b<m.next->bq b=ρ b){σ:nz}(hg:GOk σ ρ m):GOk σ bq m':=by
 cases σ with
 |Br=>trivial
 |idle=>exact⟨h.wg.trans hg.1,h.pend.trans hg.2.1,by rw[h.home];exact bV hg.2.2 h.next⟩
 |fD g=>
  obtain⟨g1,g2,g0,wa,h1,hw,DL,h2,h3,h4⟩:=hg;refine⟨g1,g2,⟨by rw[h.home];exact bV g0.1 h.next,by rw[h.base];exact bV g0.2 h.next⟩,wa,h.wg.trans h1,aW hw h.next,by rw[h.floor];exact DL,fun p hp=>h2 p ?_,?_,by rw[h.bh,h.pend];exact h4⟩
  ·rw[<-hold wa hw];exact hp
  ·rw[h.pend];exact h3.mono fun s p hs=>hs.fr h hle hold
theorem GOk.above{σ:nz}(hg:GOk σ ρ m)(h:∀b,b<m.floor->bq b=ρ b):GOk σ bq m:=by
 cases σ with
 |Br=>trivial
 |idle=>exact hg
 |fD g=>
  obtain⟨g1,g2,g0,wa,h1,hw,DL,h2,h3,h4⟩:=hg;refine⟨g1,g2,g0,wa,h1,hw,DL,fun p hp=>h2 p (by rw[<-h wa DL];exact hp),h3.mono fun s p hs=>?_,h4⟩;exact⟨let⟨Pg,e,hb⟩:=hs.post;⟨Pg,e,fun b JF=>by rw[h b (by have :=hs.lo;have :=hs.hi;omega)];exact hb b JF⟩,fun b b1 b2=>by rw[h b (by have :=hs.hi;omega)];exact hs.none b b1 b2,
   hs.lo,hs.hi,hs.next,hs.same,hs.bh,hs.below,hs.lb,hs.ap,hs.lk,hs.live,hs.kk,hs.hm⟩
end
end Go.AM
namespace Go.AM
open Go
abbrev Tm:=N8 (N8 (N8 ae))
def dj (t:Nat)(tm:Tm):ae:=((tm.get (rP t 64)).get (rP t 8)).get (Nat.mod t 8)
def tC (t:Nat)(v:ae)(tm:Tm):Tm:=
 tm.put (rP t 64) ((tm.get (rP t 64)).put (rP t 8) (((tm.get (rP t 64)).get (rP t 8)).put (Nat.mod t 8) v))
def KG:List ae->ae
 | []=>undef
 |x::_=>x
def j5:List ae->List ae
 | []=>[]
 |_::l=>l
def Gj (l:List ae):N8 ae:=
 ⟨KG l,KG (j5 l),KG (j5 (j5 l)),KG (j5 (j5 (j5 l))),KG (j5 (j5 (j5 (j5 l)))),KG (j5 (j5 (j5 (j5 (j5 l))))),KG (j5 (j5 (j5 (j5 (j5 (j5 l)))))),KG (j5 (j5 (j5 (j5 (j5 (j5 (j5 l)))))))⟩
def QZ (l:List ae):List ae:=j5 (j5 (j5 (j5 (j5 (j5 (j5 (j5 l)))))))
def pU:N8 ae:=N8.all undef
def jZ:N8 (N8 ae):=N8.all pU
def lr:Tm:=N8.all jZ
def DS (l:List ae):Option Tm:=
 match QZ (QZ l)with
 | []=>some ⟨⟨Gj l,Gj (QZ l),pU,pU,pU,pU,pU,pU⟩,jZ,jZ,jZ,jZ,jZ,jZ,jZ⟩
 |_=>none
def aiT {α:Type}(x:α)(n:N8 α):N8 α:=match n with |⟨_,b,c,d,e,f,g,h⟩=>⟨x,b,c,d,e,f,g,h⟩
def aiS {α:Type}(x:α)(n:N8 α):N8 α:=match n with |⟨a,_,c,d,e,f,g,h⟩=>⟨a,x,c,d,e,f,g,h⟩
def aiR {α:Type}(x:α)(n:N8 α):N8 α:=match n with |⟨a,b,_,d,e,f,g,h⟩=>⟨a,b,x,d,e,f,g,h⟩
def aiQ {α:Type}(x:α)(n:N8 α):N8 α:=match n with |⟨a,b,c,_,e,f,g,h⟩=>⟨a,b,c,x,e,f,g,h⟩
def aiP {α:Type}(x:α)(n:N8 α):N8 α:=match n with |⟨a,b,c,d,_,f,g,h⟩=>⟨a,b,c,d,x,f,g,h⟩
def aiO {α:Type}(x:α)(n:N8 α):N8 α:=match n with |⟨a,b,c,d,e,_,g,h⟩=>⟨a,b,c,d,e,x,g,h⟩
def aiN {α:Type}(x:α)(n:N8 α):N8 α:=match n with |⟨a,b,c,d,e,f,_,h⟩=>⟨a,b,c,d,e,f,x,h⟩
def aiM {α:Type}(x:α)(n:N8 α):N8 α:=match n with |⟨a,b,c,d,e,f,g,_⟩=>⟨a,b,c,d,e,f,g,x⟩
def R0 {α β:Type}(i:Nat)(k:(N8 α->α)->(α->N8 α->N8 α)->Option β):Option β:=
 match i with
 |0=>k N8.a aiT
 |1=>k N8.b aiS
 |2=>k N8.c aiR
 |3=>k N8.d aiQ
 |4=>k N8.e aiP
 |5=>k N8.f aiO
 |6=>k N8.g aiN
 |7=>k N8.h aiM
 |_=>none
abbrev j9:=Tm->ae
abbrev Put:=ae->Tm->Tm
def alj (f:Tm->N8 (N8 ae))(g:N8 (N8 ae)->N8 ae)(h:N8 ae->ae):j9:=fun tm=>h (g (f tm))
def ajr (f:Tm->N8 (N8 ae))(g:N8 (N8 ae)->N8 ae)(F:N8 (N8 ae)->Tm->Tm)(G:N8 ae->N8 (N8 ae)->N8 (N8 ae))(H:ae->N8 ae->N8 ae):Put:=
 fun v tm=>F (G (H v (g (f tm))) (f tm)) tm
def FZ {β:Type}(t:Nat)(k:j9->Put->Option β):Option β:=
 R0 (Nat.div t 64) fun f F=>R0 (rP t 8) fun g G=>R0 (Nat.mod t 8) fun h H=>k (alj f g h) (ajr f g F G H)
def MK (v:ae):j9:=fun _=>v
def dz (tm:Tm)(x:bS):ae:=
 match x with
 | .tmp t=>dj t tm
 | .const v=>v
 | .global g=>ptrTo g 0
 | .func f=> .func (.func f) #[] #[]
def eJ {α:Type}(x:bS)(k:j9->Option α):Option α:=
 match x with
 | .tmp t=>FZ t fun o _=>k o
 | .const v=>k (MK v)
 | .global g=>k (MK (ptrTo g 0))
 | .func f=>k (MK (.func (.func f) #[] #[]))
def sO {α:Type}:List bS->(List j9->Option α)->Option α
 | [],k=>k []
 |x::l,k=>eJ x fun o=>sO l fun os=>k (o::os)
def rD (nt ng:Nat)(x:bS):Bool:=
 match x with
 | .tmp t=>Nat.blt t nt
 | .const v=>plain v
 | .global g=>Nat.blt g ng
 | .func _=>true
abbrev Df:=List (Nat×List ae)
structure Ss where
 tm:Tm
 mem:Mem
 df:Df
abbrev Rs:=Option Ss
abbrev Kv:=ae->Mem->Df->Rs
abbrev lu:=cE->Tm->Mem->Df->Kv->Rs
abbrev im:=cE->Tm->Mem->Df->Rs
abbrev F:=cE->Ss->Option (Exit×Ss)
def jr (P:aC)(o:gK):lu:=fun _ tm m df k=>
 match dE P (dz tm) o m with
 |some (v,m')=>k v m' df
 |none=>none
def Tc (x:j9):lu:=fun _ tm m df k=>k (x tm) m df
def amm (r:Option ae)(m:Mem)(df:Df)(k:Kv):Rs:=
 match r with
 |some v=>k v m df
 |none=>none
def aml (r:Option Mem)(df:Df)(k:Kv):Rs:=
 match r with
 |some m=>k undef m df
 |none=>none
def KN:List j9->Tm->List ae
 | [],_=>[]
 |x::l,tm=>x tm::KN l tm
def Kd (r:Option (ae×Mem))(df:Df)(k:Kv):Rs:=
 match r with
 |some (v,m')=>k v m' df
 |none=>none
def UX (f:Nat)(xs:List j9):lu:=fun call tm m df k=>Kd (call f (KN xs tm) m) df k
def Kb (x:j9)(xs:List j9):lu:=fun call tm m df k=>
 match x tm with
 | .func (.func f) first cap=>Kd (call f (first.toList++KN xs tm++cap.toList) m) df k
 |_=>none
def O1 (P:aC)(r:j9)(name:String)(xs:List j9):lu:=fun call tm m df k=>
 match jQ P (r tm) name with
 |some (f,recv)=>Kd (call f (recv::KN xs tm) m) df k
 |none=>none
def Hn (x:j9)(xs:List j9):lu:=fun _ tm m df k=>
 match x tm with
 | .func (.func f) first cap=>k undef m ((f,first.toList++KN xs tm++cap.toList)::df)
 |_=>none
def cO:Int->Int->Bool
 | .ofNat a,.ofNat b=>Nat.blt a b
 | .ofNat _,.negSucc _=>false
 | .negSucc _,.ofNat _=>true
 | .negSucc a,.negSucc b=>Nat.blt b a
def fM (a b:Int):Bool:=!cO b a
def nV (a b:Int):Bool:=cO b a
def gU (a b:Int):Bool:=!cO a b
def ie:Int->Int->Bool
 | .ofNat a,.ofNat b=>Nat.beq a b
 | .negSucc a,.negSucc b=>Nat.beq a b
 |_,_=>false
def nK (a b:Int):Bool:=!ie a b
def Vb:Int->Int->Option Nat
 | .ofNat a,.ofNat b=>some (Nat.add a b)
 |_,_=>none
def vZ:Int->Int->Option Nat
 | .ofNat a,.ofNat b=>if Nat.ble b a then some (Nat.sub a b)else none
 |_,_=>none
def noQ (_ _:Int):Option Nat:=none
def gv:bU->Nat
 | .i8=>128
 | .i16=>32768
 | .i32=>2147483648
 | .i64=>9223372036854775808
 | .u8=>256
 | .u16=>65536
 | .u32=>4294967296
 | .u64=>18446744073709551616
def xI:bU->Nat
 | .i8=>0
 | .i16=>1
 | .i32=>2
 | .i64=>3
 | .u8=>4
 | .u16=>5
 | .u32=>6
 | .u64=>7
def Es (f:Int->Int->Bool)(x y:j9):lu:=fun _ tm m df k=>
 match x tm with
 | .int a i=>match y tm with
  | .int b j=>if Nat.beq (xI a) (xI b)then k (.bool (f i j)) m df else none
  |_=>none
 |_=>none
def arF (q:Int->Int->Option Nat)(f:Int->Int->Int)(x y:j9):lu:=fun _ tm m df k=>
 match x tm with
 | .int a i=>match y tm with
  | .int b j=>if Nat.beq (xI a) (xI b)then
    match q i j with
    |some n=>if Nat.blt n (gv a)then k (.int a (.ofNat n)) m df else k (.int a (a.wrap (f i j))) m df
    |none=>k (.int a (a.wrap (f i j))) m df
   else none
  |_=>none
 |_=>none
def yK (want:Bool)(x y:j9):lu:=fun _ tm m df k=>
 match x tm with
 | .string a=>match y tm with
  | .string b=>k (.bool ((a.toList==b.toList)==want)) m df
  |_=>none
 |_=>none
def Yl (x y:j9):lu:=fun _ tm m df k=>
 match x tm with
 | .string a=>match y tm with
  | .string b=>if Nat.blt (a.size+b.size) 9223372036854775808 then k (.string (a++b)) m df else none
  |_=>none
 |_=>none
def As (P:aC)(o:gK)(q:Nat->Nat->Nat)(x y:j9):lu:=fun call tm m df k=>
 match x tm with
 | .int a (.ofNat i)=>match y tm with
  | .int b (.ofNat j)=>if Nat.beq (xI a) (xI b)&&Nat.blt i (gv a)&&Nat.blt j (gv a)then k (.int a (.ofNat (q i j))) m df else jr P o call tm m df k
  |_=>none
 |_=>jr P o call tm m df k
def Hh (P:aC)(o:gK)(q:Nat->Nat->Nat)(x y:j9):lu:=fun call tm m df k=>
 match x tm with
 | .int a (.ofNat i)=>match y tm with
  | .int b (.ofNat (j+1))=>if Nat.beq (xI a) (xI b)&&Nat.blt i (gv a)then k (.int a (.ofNat (q i (Nat.succ j)))) m df else jr P o call tm m df k
  |_=>jr P o call tm m df k
 |_=>jr P o call tm m df k
def U5 (P:aC)(o:gK)(op:BinOp)(t:aO)(x y:j9):Option lu:=
 match P.underlying t with
 |some (.int _)=>match op with
  | .lss=>some (Es cO x y)
  | .leq=>some (Es fM x y)
  | .gtr=>some (Es nV x y)
  | .geq=>some (Es gU x y)
  | .eql=>some (Es ie x y)
  | .neq=>some (Es nK x y)
  | .add=>some (arF Vb Int.add x y)
  | .sub=>some (arF vZ Int.sub x y)
  | .mul=>some (arF noQ Int.mul x y)
  | .or=>some (As P o Nat.lor x y)
  | .and=>some (As P o Nat.land x y)
  | .xor=>some (As P o Nat.xor x y)
  | .quo=>some (Hh P o Nat.div x y)
  | .rem=>some (Hh P o Nat.mod x y)
  |_=>some (jr P o)
 |some .string=>match op with
  | .eql=>some (yK true x y)
  | .neq=>some (yK false x y)
  | .add=>some (Yl x y)
  |_=>some (jr P o)
 |_=>some (jr P o)
def IP (c x y:j9):lu:=fun _ tm m df k=>
 match c tm with
 | .bool true=>k (x tm) m df
 | .bool false=>k (y tm) m df
 |_=>none
def AF (p:ae)(k:Nat->Nat->Rs):Rs:=
 match p with
 | .pointer (some ⟨b,o,none⟩)=>k b o
 |_=>none
def JV {α:Type}:Nat->List α->List α
 |0,l=>l
 |1,l=>match l with |_::t=>t|_=>[]
 |2,l=>match l with |_::_::t=>t|_=>[]
 |3,l=>match l with |_::_::_::t=>t|_=>[]
 |4,l=>match l with |_::_::_::_::t=>t|_=>[]
 |5,l=>match l with |_::_::_::_::_::t=>t|_=>[]
 |6,l=>match l with |_::_::_::_::_::_::t=>t|_=>[]
 |7,l=>match l with |_::_::_::_::_::_::_::t=>t|_=>[]
 |n+8,l=>match l with |_::_::_::_::_::_::_::_::t=>JV n t|_=>[]
def OE (m:Mem)(b o n:Nat):Bool:=
 match m.bh with
 | []=>true
 |l=>!meets l b o n
def z8 (m:Mem)(b o:Nat)(k:ae->Rs):Rs:=
 match m.blk b with
 |⟨1,_,cs,_,_,_,_,_⟩=>if OE m b o 1 then
   match JV o cs with
   |some v::_=>k v
   |_=>none
  else none
 |_=>none
def LR (x:j9):lu:=fun _ tm m df k=>AF (x tm) fun b o=>z8 m b o fun v=>k v m df
def adb (l:Option (List ae))(k:ae->Rs):Rs:=
 match l with
 |some l=>k (.agg l.toArray)
 |none=>none
def LQ (n:Nat)(x:j9):lu:=fun _ tm m df k=>AF (x tm) fun b o=>adb (m.dK b o n) fun v=>k v m df
def Je (P:aC)(o:gK)(t:aO)(x:j9):Option lu:=
 match zC P t with
 |some true=>match ep P t with
  |some n=>some (LQ n x)
  |none=>some (jr P o)
 |some false=>some (LR x)
 |none=>some (jr P o)
def agE (r:Option Mem)(k:Mem->Rs):Rs:=
 match r with
 |some m=>k m
 |none=>none
def wi:Nat->List (Option ae)->ae->Option (List (Option ae))
 |0,l,v=>match l with |some _::t=>some (some v::t)|_=>none
 |1,l,v=>match l with |a::some _::t=>some (a::some v::t)|_=>none
 |2,l,v=>match l with |a::b::some _::t=>some (a::b::some v::t)|_=>none
 |3,l,v=>match l with |a::b::c::some _::t=>some (a::b::c::some v::t)|_=>none
 |4,l,v=>match l with |a::b::c::d::some _::t=>some (a::b::c::d::some v::t)|_=>none
 |5,l,v=>match l with |a::b::c::d::e::some _::t=>some (a::b::c::d::e::some v::t)|_=>none
 |6,l,v=>match l with |a::b::c::d::e::f::some _::t=>some (a::b::c::d::e::f::some v::t)|_=>none
 |7,l,v=>match l with |a::b::c::d::e::f::g::some _::t=>some (a::b::c::d::e::f::g::some v::t)|_=>none
 |n+8,l,v=>match l with
  |a::b::c::d::e::f::g::h::t=>match wi n t v with
   |some t'=>some (a::b::c::d::e::f::g::h::t')
   |none=>none
  |_=>none
def P2 (m:Mem)(b o:Nat):Bool:=
 match Nat.ble m.floor b,m.bh with
 |true,[]=>Nat.ble m.base b
 |_,_=>m.dh b o 1
def BF (m:Mem)(b o:Nat)(v:ae)(k:Mem->Rs):Rs:=
 match m.blk b with
 |⟨1,sz,cs,es,c,str,pos,_⟩=>if P2 m b o then
   match wi o cs v with
   |some jf=>k {m with heap:=m.heap.put b ⟨1,sz,jf,es,c,str,pos,m.tick⟩,tick:=Nat.succ m.tick}
   |none=>none
  else none
 |_=>none
def lj (v:ae):Bool:=
 match v with
 | .agg _=>false
 | .tuple _=>false
 |_=>true
def AV (n:Nat)(p x:j9):lu:=fun _ tm m df k=>AF (p tm) fun b o=>match x tm with
  | .agg cs=>if Nat.beq n cs.size then agE (m.dP b o cs.toList) fun m'=>k undef m' df else none
  |v=>if Nat.beq n 1 then(if lj v then BF m b o v fun m'=>k undef m' df else none)else none
def BC (P:aC)(o:gK)(t:aO)(p x:j9):Option lu:=
 match ep P t with
 |some n=>some (AV n p x)
 |none=>some (jr P o)
def Nb (d:Nat)(p:j9):lu:=fun _ tm m df k=>AF (p tm) fun b o=>k (ptrTo b (Nat.add o d)) m df
def pN (P:aC)(o:gK)(s:aO)(p:j9)(f:Nat):Option lu:=
 match P.underlying s with
 |some (.struct fields)=>match fields[f]? with
  |some fd=>match ep P fd.type with
   |some (_+1)=>some (Nb fd.offset p)
   |_=>some (jr P o)
  |none=>some (jr P o)
 |_=>some (jr P o)
def PY (v:ae)(len:Nat)(k:Nat->Rs):Rs:=
 match v with
 | .int _ (.ofNat n)=>if Nat.blt n len then k n else none
 |_=>none
def GZ (s:Nat)(x i:j9):lu:=fun _ tm m df k=>match x tm with
 | .slice (some ⟨b,o,none⟩) len _=>PY (i tm) len fun n=>k (ptrTo b (Nat.add o (Nat.mul n s))) m df
 |_=>none
def G1 (len s:Nat)(x i:j9):lu:=fun _ tm m df k=>AF (x tm) fun b o=>PY (i tm) len fun n=>k (ptrTo b (Nat.add o (Nat.mul n s))) m df
def pI (P:aC)(o:gK)(t:aO)(x i:j9):Option lu:=
 match P.underlying t with
 |some (.slice e)=>match ep P e with
  |some s=>some (GZ s x i)
  |none=>some (jr P o)
 |some (.array len e)=>match ep P e with
  |some s=>some (G1 len s x i)
  |none=>some (jr P o)
 |_=>some (jr P o)
def wN:List UInt8->Nat->Option UInt8
 | [],_=>none
 |b::_,0=>some b
 |_::l,i+1=>wN l i
def U0 (x i:j9):lu:=fun _ tm m df k=>match x tm with
  | .string s=>match i tm with
   | .int _ (.ofNat n)=>match wN s.data.toList n with
    |some b=>k (.int .u8 (.ofNat b.toNat)) m df
    |none=>none
   |_=>none
  |_=>none
def CC (P:aC)(o:gK)(t:aO)(x i:j9):Option lu:=
 match P.underlying t with
 |some .string=>some (U0 x i)
 |_=>some (jr P o)
def LX (x:j9):lu:=fun _ tm m df k=>match x tm with
  | .string s=>k (.int .i64 (.ofNat s.size)) m df
  |_=>none
def Tw (x:j9):lu:=fun _ tm m df k=>match x tm with
  | .slice _ n _=>k (.int .i64 (.ofNat n)) m df
  |_=>none
def Tx (P:aC)(o:gK)(t:aO)(x:j9):Option lu:=
 match P.underlying t with
 |some .string=>some (LX x)
 |some (.slice _)=>some (Tw x)
 |_=>some (jr P o)
def x9 (x:j9)(i:Nat):lu:=fun _ tm m df k=>
 match x tm with
 | .tuple vs=>match vs.toList[i]? with
  |some v=>k v m df
  |none=>none
 |_=>none
def LO (P:aC)(o:gK)(nS:Bool)(x y:j9):lu:=fun call tm m df k=>
 match x tm with
 | .int a i=>match y tm with
  | .int b j=>k (.int a (if cO j i then(if nS then i else j)else(if nS then j else i))) m df
  |_=>none
 |_=>jr P o call tm m df k
def WK (x:j9):lu:=fun _ tm m df k=>
 match x tm with
 | .bool b=>k (.bool (!b)) m df
 |_=>none
def SZ (P:aC)(o:gK)(x:j9):lu:=fun call tm m df k=>
 match x tm with
 | .pointer (some a)=>k (.pointer (some a)) m df
 |_=>jr P o call tm m df k
def U9 (cs:List (Option ae))(m:Mem)(df:Df)(k:Kv):Rs:=
 k (ptrTo m.next 0) {m with heap:=m.heap.put m.next ⟨1,0,cs,#[],0,.empty,1,m.tick⟩,tick:=Nat.succ m.tick,next:=Nat.succ m.next} df
def U' (cs:List (Option ae)):lu:=fun _ tm m df k=>U9 cs m df k
def aih (x:j9):lu:=fun _ tm m df k=>U9 ((x tm).cells.toList.map some) m df k
def gX (P:aC)(o:gK):Option lu:=
 match o.op with
 | .move x=>eJ x fun x=>some (Tc x)
 | .assign x=>eJ x fun x=>some (Tc x)
 | .pick c x y=>eJ c fun c=>eJ x fun x=>eJ y fun y=>some (IP c x y)
 | .binOp op t x y _=>eJ x fun x=>eJ y fun y=>U5 P o op t x y
 | .load t x=>eJ x fun x=>Je P o t x
 | .store t p x=>eJ p fun p=>eJ x fun x=>BC P o t p x
 | .fieldAddr s p f=>eJ p fun p=>pN P o s p f
 | .indexAddr t x i=>eJ x fun x=>eJ i fun i=>pI P o t x i
 | .index t x i=>eJ x fun x=>eJ i fun i=>CC P o t x i
 | .extract x i=>eJ x fun x=>some (x9 x i)
 | .unOp .not _ x=>eJ x fun x=>some (WK x)
 | .nilCheck x=>eJ x fun x=>some (SZ P o x)
 | .alloc e=>match iw P e with
  |some z=>some (U' (z.cells.toList.map some))
  |none=>none
 | .box _ x=>eJ x fun x=>some (aih x)
 | .call {callee:= .builtin .min,args,.. }=>match args.toList with
  | [x,y]=>eJ x fun x=>eJ y fun y=>some (LO P o false x y)
  |_=>some (jr P o)
 | .call {callee:= .builtin .max,args,.. }=>match args.toList with
  | [x,y]=>eJ x fun x=>eJ y fun y=>some (LO P o true x y)
  |_=>some (jr P o)
 | .call {callee:= .value (.func f),args,.. }=>sO args.toList fun xs=>some (UX f xs)
 | .call {callee:= .value x,args,.. }=>eJ x fun x=>sO args.toList fun xs=>some (Kb x xs)
 | .call {callee:= .invoke r name,args,.. }=>eJ r fun r=>sO args.toList fun xs=>some (O1 P r name xs)
 | .call {callee:= .builtin .len,args,argTypes}=>match args.toList,argTypes.toList with
  | [x],t::_=>eJ x fun x=>Tx P o t x
  |_,_=>some (jr P o)
 | .defer {callee:= .value x,args,.. }=>eJ x fun x=>sO args.toList fun xs=>some (Hn x xs)
 |_=>some (jr P o)
def Wy (p:Put)(rest:im)(call:cE)(tm:Tm):Kv:=fun v m df=>rest call (p v tm) m df
def noK (rest:im)(call:cE)(tm:Tm):Kv:=fun v m df=>rest call tm m df
def Ns (p:Put)(op:lu)(rest:im):im:=fun call tm m df=>op call tm m df (Wy p rest call tm)
def Ig (op:lu)(rest:im):im:=fun call tm m df=>op call tm m df (noK rest call tm)
def Hb (g:j9)(want:Bool)(p:Put)(op:lu)(rest:im):im:=fun call tm m df=>
 match g tm with
 | .bool true=>if want then op call tm m df (Wy p rest call tm)else rest call (p undef tm) m df
 | .bool false=>if want then rest call (p undef tm) m df else op call tm m df (Wy p rest call tm)
 |_=>rest call (p undef tm) m df
def Ha (g:j9)(want:Bool)(op:lu)(rest:im):im:=fun call tm m df=>
 match g tm with
 | .bool true=>if want then op call tm m df (noK rest call tm)else rest call tm m df
 | .bool false=>if want then rest call tm m df else op call tm m df (noK rest call tm)
 |_=>rest call tm m df
def X6:im:=fun _ tm m df=>some ⟨tm,m,df⟩
def SE (P:aC)(nt:Nat)(ops:Array gK)(i:Nat)(rest:im):Option im:=
 match ops[i]? with
 |none=>none
 |some o=>if o.op.operands.toList.all (rD nt P.globals.size)then
  match gX P o with
  |none=>none
  |some op=>match o.guard with
   |none=>match o.dst with
    |some d=>FZ d fun _ p=>some (Ns p op rest)
    |none=>some (Ig op rest)
   |some (j,want)=>match(ops[j]?).bind (·.dst)with
    |some g=>if Nat.blt g nt then FZ g fun gx _=>match o.dst with
     |some d=>FZ d fun _ p=>some (Hb gx want p op rest)
     |none=>some (Ha gx want op rest)
     else none
    |none=>none
  else none
def mV (v:ae):Option Nat:=
 match v with
 | .pointer (some a)=>some a.block
 | .slice (some a) _ _=>some a.block
 | .map (some r)=>some r
 |_=>none
def mD (o:gK):Option bS:=
 match o.op with
 | .load _ x=>some x
 | .lookup _ x _ _=>some x
 | .slice _ x _ _ _=>some x
 |_=>o.dst.map .tmp
def cY (ops:Array gK)(o:gK)(tm:Tm):Bool:=
 match o.guard with
 |none=>true
 |some (j,want)=>match(ops[j]?).bind (·.dst)with
  |some g=>match dj g tm with
   | .bool b=>b==want
   |_=>false
  |none=>false
def jj (m:Mem)(v:ae):ae:=
 match mV v with
 |some b=> .int .i64 (.ofNat (m.blk b).bK)
 |none=> .nilFunc
def R2 (ops:Array gK)(o:gK)(x:bS)(slot:Nat)(rest:im):im:=fun call tm m df=>
 rest call (tC slot (if cY ops o tm then jj m (dz tm x)else undef) tm) m df
def xA (a b:ae):Bool:=
 match a,b with
 | .int _ (.ofNat i),.int _ (.ofNat j)=>Nat.beq i j
 | .nilFunc,.nilFunc=>true
 |_,_=>false
def looks (o:gK):Bool:=
 match o.op with
 | .load .. =>true
 | .lookup .. =>true
 | .slice .. =>true
 |_=>false
def sD (P:aC)(ops:Array gK)(o:gK)(x:bS)(slot:Nat)(rest:im):im:=fun call tm m df=>
 if cY ops o tm then
  if xA (dj slot tm) (jj m (dz tm x))&&(if looks o then(dE P (dz tm) o m).isSome else match mV (dz tm x)with |some b=>Nat.ble m.floor b|none=>true)then rest call tm m df else none
 else rest call tm m df
abbrev mX:=Nat×Nat×Nat
def NJ (f:im):im:=fun call tm m df=>match m.pend with
 | []=>f call tm m df
 |_=>none
def zI (P:aC)(nt:Nat)(ops:Array gK)(t:mX)(rest:im):Option im:=
 match t with
 |(0,i,slot)=>match SE P nt ops i rest with
  |some f=>some (match slot with |0=>f|_=>NJ f)
  |none=>none
 |(1,i,slot)=>match ops[i]? with
  |some o=>match mD o with
   |some x=>if rD nt P.globals.size x&&Nat.ble nt slot&&Nat.blt slot 512 then some (R2 ops o x slot rest)else none
   |none=>none
  |none=>none
 |(_,i,slot)=>match ops[i]? with
  |some o=>match mD o with
   |some x=>some (sD P ops o x slot rest)
   |none=>none
  |none=>none
def g9 (P:aC)(nt:Nat)(ops:Array gK):List mX->Option im
 | []=>some X6
 |t::l=>match g9 P nt ops l with
  |some rest=>zI P nt ops t rest
  |none=>none
def oE (a b:F):F:=fun call st=>
 match a call st with
 |some (.normal,jL)=>b call jL
 |r=>r
def xz:F:=fun _ st=>some (.normal,st)
def OV (x:j9)(a b:F):F:=fun call st=>
 match x st.tm with
 | .bool true=>a call st
 | .bool false=>b call st
 |_=>none
def HA (id:Nat)(a:F):F:=fun call st=>
 match a call st with
 |some (.exit j,jL)=>if Nat.beq j id then some (.normal,jL)else some (.exit j,jL)
 |r=>r
def xN (a:F)(call:cE):Nat->Ss->Option (Exit×Ss)
 |0,_=>none
 |n+1,st=>match a call st with
  |some (.normal,jL)=>xN a call n jL
  |r=>r
def Y' (a:F):F:=fun call st=>xN a call 100000 st
def Fs (e:Exit):F:=fun _ st=>some (e,st)
def PF (o:im):F:=fun call st=>
 match o call st.tm st.mem st.df with
 |some jL=>some (.normal,jL)
 |none=>none
def yN (has:Nat->Bool)(rest:Nat->Option F)(call:cE):Nat->F->Ss->Option (Exit×Ss)
 |0,_,_=>none
 |n+1,a,st=>match a call st with
  |some (.goto l,jL)=>if has l then match rest l with
   |some b=>yN has rest call n b jL
   |none=>none
   else some (.goto l,jL)
  |r=>r
def gV (ops:Array gK)(bD:Array Nat)(hs:List Nat)(i:Nat):Bool:=
 Nat.blt (cX bD hs i) (qZ bD hs i)&&((ops[i]?).any fun o=>match o.op with
  | .load .. | .lookup .. | .slice .. | .alloc _| .box .. | .buildSlice .. | .makeSlice .. | .makeMap .. =>true
  |_=>false)
def Gt (ops:Array gK)(bD:Array Nat)(nt:Nat):Bool:=
 (List.range ops.size).all fun i=>match ops[i]? with
  |some o=>o.after.toList.all (fun e=>!Region.binds .any e||Nat.blt e.on i)&&Nat.beq (o.after.toList.foldl (fun s e=>if Region.binds .any e then s|||2^e.on|||bD.getD e.on 0 else s) 0) (bD.getD i 0)&&(match o.dst with |some d=>Nat.blt d nt|none=>true)
  |none=>false
def steady (ops:Array gK)(bD:Array Nat)(hs:List Nat):Bool:=
 (List.range ops.size).all fun i=>!gV ops bD hs i||(match ops[i]? with
  |some o=>(List.range ops.size).all fun j=>match ops[j]? with
   |some y=>(match y.dst with |some d=> !(ko ops o).contains d||(bD.getD i 0).testBit j|none=>true)
   |none=>true
  |none=>false)
def fV (ops:Array gK)(bD:Array Nat)(hs:List Nat)(s:Nat):List Nat:=(List.range ops.size).filter fun i=>(ops[i]?).any fx&&cX bD hs i==s
def F9 (ops:Array gK)(bD:Array Nat)(hs:List Nat)(nt s:Nat):List mX:=
 (fV ops bD hs s).flatMap fun i=>if gV ops bD hs i then[(0,i,0),(1,i,nt+i)]else[(0,i,0)]
def u4 (ops:Array gK)(bD:Array Nat)(hs:List Nat)(nt s:Nat):List mX:=
 ((List.range ops.size).filter fun i=>(ops[i]?).any fx&&gV ops bD hs i&&decide (cX bD hs i<=s)&&decide (s<qZ bD hs i)).map fun i=>(2,i,nt+i)
def mZ (ops:Array gK)(bD:Array Nat)(hs:List Nat)(nt:Nat):Nat->List Nat->List mX
 |s,[]=>F9 ops bD hs nt s
 |s,h::l=>F9 ops bD hs nt s++(0,h,1)::(u4 ops bD hs nt s++mZ ops bD hs nt (s+1) l)
def UN (ops:Array gK)(nt:Nat):Option (List mX):=
 let bD:=Region.before ops
 let hs:=aE ops
 if ym bD hs&&tidy ops bD&&Gt ops bD nt&&steady ops bD hs then some (mZ ops bD hs nt 0 hs)else none
def comp (P:aC)(nt:Nat):Nat->Code->Option F
 |0,_=>none
 |n+1,c=>match c with
  | .skip=>some xz
  | .label _=>some xz
  | .seq a b=>match comp P nt n a with
   |some a=>match comp P nt n b with
    |some b=>some (oE a b)
    |none=>none
   |none=>none
  | .cond x a b=>if rD nt P.globals.size x then
   match comp P nt n a with
   |some a=>match comp P nt n b with
    |some b=>eJ x fun x=>some (OV x a b)
    |none=>none
   |none=>none
   else none
  | .block id b=>match comp P nt n b with
   |some b=>some (HA id b)
   |none=>none
  | .loop b=>match comp P nt n b with
   |some b=>some (Y' b)
   |none=>none
  | .exit id=>some (Fs (.exit id))
  | .ret=>some (Fs .ret)
  | .goto l=>some (Fs (.goto l))
  | .scope b=>match comp P nt n b with
   |some f=>some fun call st=>yN (fun l=>(findLabel b l).isSome) (fun l=>(findLabel b l).bind (comp P nt n)) call 1000 f st
   |none=>none
  | .region _ ops draw=>if draw then
    match UN ops nt with
    |some l=>match g9 P nt ops l with
     |some o=>some (PF o)
     |none=>none
    |none=>none
   else match g9 P nt ops ((List.range ops.size).map fun i=>(0,i,0))with
   |some o=>some (PF o)
   |none=>none
  |_=>none
def vj (P:aC)(nt:Nat)(m:Mem)(tm:Tm):List ResultVar->Option (List ae)
 | []=>some []
 | .tmp t::l=>if Nat.blt t nt then
   match vj P nt m tm l with
   |some vs=>some (dj t tm::vs)
   |none=>none
  else none
 | .cell a t::l=>if Nat.blt a nt then
   match ky P t (dj a tm) m,vj P nt m tm l with
   |some v,some vs=>some (v::vs)
   |_,_=>none
  else none
def lC (P:aC)(nt:Nat)(rs:List ResultVar)(tm:Tm)(m:Mem):Option ae:=
 match vj P nt m tm rs with
 |some [v]=>some v
 |some vs=>some (.tuple vs.toArray)
 |none=>none
def dY (P:aC)(f:Nat):Bool:=(P.funcs[f]?).any (·.body.isSome)
def oQ (P:aC)(X:Ext)(call:cE):Df->Mem->Option Mem
 | [],m=>some m
 |(f,args)::ds,m=>if dY P f&& !(Nat.beq f X.KX||Nat.beq f X.vV)then
   match call f args m with
   |some (_,m')=>oQ P X call ds m'
   |none=>none
  else none
def OR (r:Option (Exit×Ss)):Option Ss:=
 match r with
 |some (.normal,st)=>some st
 |some (.ret,st)=>some st
 |_=>none
def yr (P:aC)(X:Ext)(nt:Nat)(rs:List ResultVar)(b:F)(call:cE)(args:List ae)(m:Mem):Option (ae×Mem):=
 match(if Nat.ble args.length nt then DS args else none)with
 |none=>none
 |some tm=>
  match OR (b call ⟨tm,m,[]⟩)with
  |none=>none
  |some st=>match oQ P X call st.df st.mem with
   |none=>none
   |some m'=>match lC P nt rs st.tm m' with
    |some v=>some (v,m')
    |none=>none
structure Tab where
 body:cE->List ae->Mem->Option (ae×Mem)
def jY (P:aC)(X:Ext)(f:Nat):Tab:=
 match P.funcs[f]? with
 |some fn=>match fn.body with
  |some c=>match(if Nat.ble fn.ntmps 512 then comp P fn.ntmps 1000 c else none)with
   |some b=>⟨yr P X fn.ntmps fn.results.toList b⟩
   |none=>⟨fun _ _ _=>none⟩
  |none=>⟨fun _ args m=>uj X f args m⟩
 |none=>⟨fun _ _ _=>none⟩
def mr (P:aC)(X:Ext):Nat->cE
 |0=>fun _ _ _=>none
 |n+1=>fun f args m=>(jY P X f).body (mr P X n) args m
end Go.AM
namespace Go.AM
open Go
theorem yM {α β:Type}{i:Nat}{k:(N8 α->α)->(α->N8 α->N8 α)->Option β}{r:β}(h:R0 i k=some r):
  i<8/\k (fun n=>n.get i) (fun x n=>n.put i x)=some r:=by
 unfold R0 at h
 split at h<;>first |exact⟨ai,h⟩|cases h
theorem ja {β:Type}{t:Nat}{k:j9->Put->Option β}{r:β}(h:FZ t k=some r):t<512/\k (dj t) (tC t)=some r:=by
 unfold FZ at h;obtain⟨h1,h⟩:=yM h;obtain⟨h2,h⟩:=yM h;obtain⟨h3,h⟩:=yM h;have JJ:t / 64<8:=h1;have e:Nat.div t 64=rP t 64:=by show t / 64=t / 64%8;omega
 rw[e]at h;exact⟨ai,h⟩
theorem oV {t t':Nat}(ht:t<512)(ht':t'<512)(v:ae)(tm:Tm):dj t' (tC t v tm)=if t=t' then v else dj t' tm:=by
 have d (x k:Nat):rP x k=x / k%8:=rfl;have e (x:Nat):Nat.mod x 8=x%8:=rfl;have l (x k:Nat):rP x k<8:=by rw[d];omega
 have l' (x:Nat):Nat.mod x 8<8:=by rw[e];omega
 unfold dj tC;rw[N8.get_put _ _ (l ..) (l ..)]
 by_cases h1:rP t 64=rP t' 64
 ·rw[bj h1,N8.get_put _ _ (l ..) (l ..)]
  by_cases h2:rP t 8=rP t' 8
  ·rw[bj h2,N8.get_put _ _ (l' ..) (l' ..)]
   by_cases h3:Nat.mod t 8=Nat.mod t' 8
   ·rw[bj h3,bj (by simp only[d,e]at h1 h2 h3;omega)]
   ·rw[bW h3,bW (by rintro rfl;exact h3 rfl),h1,h2]
  ·rw[bW h2,bW (by rintro rfl;exact h2 rfl),h1]
 ·rw[bW h1,bW (by rintro rfl;exact h1 rfl)]
theorem aH {α:Type}{x:bS}{k:j9->Option α}{r:α}(h:eJ x k=some r):k (fun tm=>dz tm x)=some r:=by
 unfold eJ at h
 split at h
 ·exact(ja h).2
 ·exact h
 ·exact h
 ·exact h
theorem fF {α:Type}:∀{xs:List bS}{k:List j9->Option α}{r:α},sO xs k=some r->∃os,k os=some r/\∀tm,KN os tm=xs.map (dz tm)
 | [],k,r,h=>⟨[],h,fun _=>rfl⟩
 |x::l,k,r,h=>by
  have h1:=aH h;obtain⟨os,h2,h3⟩:=fF h1;exact⟨_,h2,fun tm=>by simp[KN,h3]⟩
def DG (P:aC)(o:gK)(ev:bS->ae)(f:Nat)(args:List ae):Prop:=
 (∃x lf kW first cap,o.op= .call {callee:= .value x,args:=lf,argTypes:=kW}/\ev x= .func (.func f) first cap/\args=first.toList++lf.toList.map ev++cap.toList)\/
 (∃r name lf kW recv,o.op= .call {callee:= .invoke r name,args:=lf,argTypes:=kW}/\jQ P (ev r) name=some (f,recv)/\args=recv::lf.toList.map ev)
def Pf (o:gK)(ev:bS->ae)(f:Nat)(args:List ae):Prop:=
 ∃x lf kW first cap,o.op= .defer {callee:= .value x,args:=lf,argTypes:=kW}/\ev x= .func (.func f) first cap/\args=first.toList++lf.toList.map ev++cap.toList
def zD (P:aC)(call:cE)(o:gK)(tm:Tm)(m:Mem)(df:Df)(v:ae)(m':Mem)(lX:Df):Prop:=
 (dE P (dz tm) o m=some (v,m')/\lX=df)\/
 (∃f args,DG P o (dz tm) f args/\call f args m=some (v,m')/\lX=df)\/
 (∃f args,Pf o (dz tm) f args/\v=undef/\m'=m/\lX=(f,args)::df)
def ej (P:aC)(o:gK)(op:lu):Prop:=
 ∀call tm m df k r,op call tm m df k=some r->∃v m' lX,k v m' lX=some r/\zD P call o tm m df v m' lX
section
variable {P:aC}{o:gK}
theorem cI:ej P o (jr P o):=by
 intro call tm m df k r h;unfold jr at h
 split at h
 ·rename_i v m' hv;exact⟨v,m',df,h,.inl ⟨hv,rfl⟩⟩
 ·cases h
theorem wL {adU:Option (ae×Mem)}{df:Df}{k:Kv}{r:Ss}(h:Kd adU df k=some r):∃v m',adU=some (v,m')/\k v m' df=some r:=by
 unfold Kd at h
 split at h
 ·exact⟨_,_,rfl,h⟩
 ·cases h
theorem zY {x:bS}(ho:o.op= .move x\/o.op= .assign x):ej P o (Tc fun tm=>dz tm x):=by
 intro call tm m df k r h;refine⟨_,_,_,h,.inl ⟨?_,rfl⟩⟩;unfold dE;rcases ho with ho|ho<;>rw[ho]
theorem IN {c x y:bS}(ho:o.op= .pick c x y):ej P o (IP (fun tm=>dz tm c) (fun tm=>dz tm x) (fun tm=>dz tm y)):=by
 intro call tm m df k r h;unfold IP at h
 split at h
 ·rename_i hc;refine⟨_,_,_,h,.inl ⟨?_,rfl⟩⟩;unfold dE;rw[ho];simp only[hc,if_true]
 ·rename_i hc;refine⟨_,_,_,h,.inl ⟨?_,rfl⟩⟩;unfold dE;rw[ho];simp only[hc,cF,if_false]
 ·cases h
theorem j3 (a b:Nat):Nat.blt a b=decide (a<b):=by rw[Bool.eq_iff_iff];simp[Nat.blt_eq]
theorem Dn (a b:Nat):Nat.ble a b=decide (a<=b):=by rw[Bool.eq_iff_iff];simp
theorem Kk (a b:Nat):Nat.beq a b=decide (a=b):=by rw[Bool.eq_iff_iff];simp
theorem fG (i j:Int):cO i j=decide (i<j):=by
 unfold cO
 split<;>(try rw[j3])<;>rw[Bool.eq_iff_iff]<;>simp only[iB,cF,false_iff,true_iff,Int.ofNat_eq_natCast,Int.negSucc_eq]<;>omega
theorem a8 (i j:Int):ie i j=decide (i=j):=by
 unfold ie
 split
 ·rw[Kk,Bool.eq_iff_iff];simp only[iB,Int.ofNat_eq_natCast];omega
 ·rw[Kk,Bool.eq_iff_iff];simp only[iB,Int.negSucc_eq];omega
 ·rename_i h1 h2;rw[Bool.eq_iff_iff];simp only[cF,iB,false_iff];rintro rfl;cases i with
  |ofNat a=>exact h1 a a rfl rfl
  |negSucc a=>exact h2 a a rfl rfl
theorem tQ {a b:bU}(h:Nat.beq (xI a) (xI b)=true):a=b:=by
 cases a<;>cases b<;>first |rfl|(exfalso;revert h;decide)
theorem rS {k:bU}{n:Nat}(h:Nat.blt n (gv k)=true):k.wrap n=n:=by
 rw[j3,iB]at h;cases k<;>simp only[gv]at h<;>simp[bU.wrap,bU.bits,bU.signed]<;>omega
theorem Ur (k:bU):gv k<=2^k.bits:=by cases k<;>decide
theorem iN {α β:Type}{f:α->Sem β}:∀{x:Sem α}{a:α},x.aM P=some a->(x>>=f).aM P=(f a).aM P:=by
 intro x
 show∀{a:α},x.aM P=some a->(x.bind f).aM P=(f a).aM P
 induction x with
 |pure a=>intro b h;simp only[Sem.aM,ah]at h;subst h;rfl
 |program k ih=>intro b h;exact ih P h
 |_=>intro b h;simp[Sem.aM]at h
theorem fE {t:aO}{d:TypeDesc}(h:P.underlying t=some d):(underlying t).aM P=some d:=by
 unfold underlying;rw[iN (a:=P) rfl,h];rfl
theorem hY {ev:bS->ae}(h1:o.op.operands.all (fun x=>plain (ev x))=true){v:ae}(h2:(execOp ev o).aM P=some (.value v))(h3:plain v=true):dp P ev o=some v:=by
 unfold dp;rw[bj h1,h2];simp only[h3,if_true]
theorem qC {ev:bS->ae}{op:BinOp}{t u:aO}{x y:bS}(ho:o.op= .binOp op t x y u){a b:bU}{i j:Int}(hx:ev x= .int a i)(hy:ev y= .int b j){v:ae}
  (h:(binOp op t (.int a i) (.int b j)).aM P=some v)(hv:plain v=true):dp P ev o=some v:=by
 refine hY ?_ ?_ hv
 ·rw[ho];simp[Op.operands,hx,hy,plain,de]
 ·unfold execOp;rw[ho];simp only[hx,hy];have e:eqGuard op t x y (.int a i) (.int b j)=pure ():=by
   unfold eqGuard
   split<;>rfl
  rw[e];simp only[pure_bind];generalize binOp op t (.int a i) (.int b j)=s at h
  show Sem.aM P (s.bind fun v=>Sem.pure (Next.value v))=_
  have key:∀s:Sem ae,s.aM P=some v->Sem.aM P (s.bind fun v=>Sem.pure (Next.value v))=some (Next.value v):=by
   intro s
   induction s with
   |pure a=>intro h;simp only[Sem.aM,ah]at h;subst h;rfl
   |program k ih=>intro h;exact ih P h
   |_=>intro h;simp[Sem.aM]at h
  exact key s h
theorem AZ {ev:bS->ae}{op:BinOp}{t u:aO}{x y:bS}(ho:o.op= .binOp op t x y u){a b:bU}{i j:Int}(hx:ev x= .int a i)(hy:ev y= .int b j){v:ae}(hp:dp P ev o=some v){m:Mem}:dE P ev o m=some (v,m):=by
 unfold dE;rw[ho];simp only[];have e:∀c d,rF P t c d (ev x) (ev y)=none:=by
  intro c d;rw[hx,hy];unfold rF
  split<;>first |rfl|(rename_i h;cases h)
 split
 ·rw[e,hp];rfl
 ·rw[e,hp];rfl
 ·rw[hp];rfl
theorem zD.of{call:cE}{tm:Tm}{m m':Mem}{df:Df}{v:ae}(h:dE P (dz tm) o m=some (v,m')):zD P call o tm m df v m' df:= .inl ⟨h,rfl⟩
variable {x y:bS}
abbrev ex (x:bS):j9:=fun tm=>dz tm x
theorem mU {op:BinOp}{t u:aO}(ho:o.op= .binOp op t x y u){f:Int->Int->Bool}(hf:∀k i j,(binOp op t (.int k i) (.int k j)).aM P=some (.bool (f i j))):ej P o (Es f (ex x) (ex y)):=by
 intro call tm m df k r h;unfold Es at h
 split at h
 ·rename_i a i hx
  split at h
  ·rename_i b j hy
   split at h
   ·rename_i hk;obtain rfl:=tQ hk;exact⟨_,_,_,h,.of (AZ ho hx hy (qC ho hx hy (hf _ _ _) rfl))⟩
   ·cases h
  ·cases h
 ·cases h
theorem zB {op:BinOp}{t u:aO}(ho:o.op= .binOp op t x y u){f:Int->Int->Int}{q:Int->Int->Option Nat}(hq:∀i j n,q i j=some n->f i j=n)
  (hf:∀k i j,(binOp op t (.int k i) (.int k j)).aM P=some (.int k (k.wrap (f i j)))):ej P o (arF q f (ex x) (ex y)):=by
 intro call tm m df k r h;unfold arF at h
 split at h
 ·rename_i a i hx
  split at h
  ·rename_i b j hy
   split at h
   ·rename_i hk;obtain rfl:=tQ hk;have key:=AZ (m:=m) ho hx hy (qC ho hx hy (hf _ _ _) rfl)
    split at h
    ·rename_i n hn
     split at h
     ·rename_i hs;refine⟨_,_,_,h,.of ?_⟩;rw[key,hq _ _ _ hn,rS hs];rfl
     ·exact⟨_,_,_,h,.of key⟩
    ·exact⟨_,_,_,h,.of key⟩
   ·cases h
  ·cases h
 ·cases h
theorem Dr {k:bU}{i:Nat}(h:Nat.blt i (gv k)=true):(BitVec.ofInt k.bits i).toNat=i:=by
 rw[j3,iB]at h;have :=Ur k;simp only[BitVec.toNat_ofInt];have h2:(i:Int)%((2^k.bits:Nat):Int)=i:=Int.emod_eq_of_lt ai ai;rw[h2];simp
theorem Uq (k:bU):∃n,gv k=2^n:=by
 cases k
 ·exact⟨7,rfl⟩
 ·exact⟨15,rfl⟩
 ·exact⟨31,rfl⟩
 ·exact⟨63,rfl⟩
 ·exact⟨8,rfl⟩
 ·exact⟨16,rfl⟩
 ·exact⟨32,rfl⟩
 ·exact⟨64,rfl⟩
theorem uy {op:BinOp}{t u:aO}(ho:o.op= .binOp op t x y u){q:Nat->Nat->Nat}(hq:∀n i j,i<2^n->j<2^n->q i j<2^n)
  (hf:∀(k:bU) (i j:Nat),(BitVec.ofInt k.bits (i:Int)).toNat=i->(BitVec.ofInt k.bits (j:Int)).toNat=j->(binOp op t (.int k i) (.int k j)).aM P=some (.int k (k.wrap ((q i j:Nat):Int)))):ej P o (As P o q (ex x) (ex y)):=by
 intro call tm m df k r h;unfold As at h
 split at h
 ·rename_i a i hx
  split at h
  ·rename_i b j hy
   split at h
   ·rename_i hk;simp only[ag]at hk;obtain⟨⟨hk,hi⟩,hj⟩:=hk;obtain rfl:=tQ hk;refine⟨_,_,_,h,.of ?_⟩;rw[AZ ho hx hy (qC ho hx hy (hf a i j (Dr hi) (Dr hj)) rfl)];obtain⟨n,hn⟩:=Uq a;have :Nat.blt (q i j) (gv a)=true:=by
     rw[j3,iB]at hi hj⊢;rw[hn]at hi hj⊢;exact hq n i j hi hj
    rw[rS this];rfl
   ·exact cI call tm m df k r h
  ·cases h
 ·exact cI call tm m df k r h
theorem C4 {op:BinOp}{t u:aO}(ho:o.op= .binOp op t x y u){q:Nat->Nat->Nat}(hq:∀i j,q i j<=i)
  (hf:∀(k:bU) (i j:Nat),Nat.blt i (gv k)=true->(binOp op t (.int k i) (.int k ((j+1:Nat):Int))).aM P=some (.int k ((q i (j+1):Nat):Int))):ej P o (Hh P o q (ex x) (ex y)):=by
 intro call tm m df k r h;unfold Hh at h
 split at h
 ·rename_i a i hx
  split at h
  ·rename_i b j hy
   split at h
   ·rename_i hk;simp only[ag]at hk;obtain⟨hk,hi⟩:=hk;obtain rfl:=tQ hk;exact⟨_,_,_,h,.of (AZ ho hx hy (qC ho hx hy (hf a i j hi) rfl))⟩
   ·exact cI call tm m df k r h
  ·exact cI call tm m df k r h
 ·exact cI call tm m df k r h
theorem Bz {ev:bS->ae}{op:BinOp}{t u:aO}(ho:o.op= .binOp op t x y u){a b:ByteArray}(hx:ev x= .string a)(hy:ev y= .string b){v:ae}
  (h:(Op.stringOp op a b).aM P=some v)(hv:plain v=true){m:Mem}(dC:op≠ .shl/\op≠ .shr):dE P ev o m=some (v,m):=by
 have hp:dp P ev o=some v:=by
  refine hY ?_ ?_ hv
  ·rw[ho];simp[Op.operands,hx,hy,plain,de]
  ·unfold execOp;rw[ho];simp only[hx,hy];have e:eqGuard op t x y (.string a) (.string b)=pure ():=by
    unfold eqGuard
    split<;>rfl
   have e2:binOp op t (.string a) (.string b)=Op.stringOp op a b:=by cases op<;>rfl
   rw[e,e2];simp only[pure_bind];generalize Op.stringOp op a b=s at h
   show Sem.aM P (s.bind fun v=>Sem.pure (Next.value v))=_
   have key:∀s:Sem ae,s.aM P=some v->Sem.aM P (s.bind fun v=>Sem.pure (Next.value v))=some (Next.value v):=by
    intro s
    induction s with
    |pure a=>intro h;simp only[Sem.aM,ah]at h;subst h;rfl
    |program k ih=>intro h;exact ih P h
    |_=>intro h;simp[Sem.aM]at h
   exact key s h
 unfold dE;rw[ho];simp only[];have e:∀c d,rF P t c d (ev x) (ev y)=none:=by
  intro c d;rw[hx,hy];unfold rF
  split<;>first |rfl|(rename_i h;cases h)
 split
 ·rw[e,hp];rfl
 ·rw[e,hp];rfl
 ·rw[hp];rfl
theorem xx {want:Bool}{t u:aO}(ho:o.op= .binOp (if want then .eql else .neq) t x y u):ej P o (yK want (ex x) (ex y)):=by
 intro call tm m df k r h;unfold yK at h
 split at h
 ·rename_i a hx
  split at h
  ·rename_i b hy;refine⟨_,_,_,h,.of (Bz ho hx hy ?_ rfl ?_)⟩
   ·cases want with
    |true=>simp[Op.stringOp,pure,Sem.aM]
    |false=>simp[Op.stringOp,pure,Sem.aM]
   ·cases want<;>simp
  ·cases h
 ·cases h
theorem MO {t u:aO}(ho:o.op= .binOp .add t x y u):ej P o (Yl (ex x) (ex y)):=by
 intro call tm m df k r h;unfold Yl at h
 split at h
 ·rename_i a hx
  split at h
  ·rename_i b hy
   split at h
   ·rename_i hs;rw[j3,iB]at hs;refine⟨_,_,_,h,.of (Bz ho hx hy ?_ rfl du)⟩;unfold Op.stringOp;simp only[];rw[bW (by simp only[bU.max,bU.signed,bU.bits];simp;omega)];rfl
   ·cases h
  ·cases h
 ·cases h
theorem MW {op:BinOp}{t u:aO}(ho:o.op= .binOp op t x y u){f:lu}(h:U5 P o op t (ex x) (ex y)=some f):ej P o f:=by
 unfold U5 at h
 split at h
 ·split at h
  ·cases h;exact mU ho fun k i j=>by simp[binOp,Op.intCmp,pure,Sem.aM,fG]
  ·cases h;exact mU ho fun k i j=>by simp[binOp,Op.intCmp,pure,Sem.aM,fM,fG];rw[Bool.eq_iff_iff];simp
  ·cases h;exact mU ho fun k i j=>by simp[binOp,Op.intCmp,pure,Sem.aM,nV,fG]
  ·cases h;exact mU ho fun k i j=>by simp[binOp,Op.intCmp,pure,Sem.aM,gU,fG];rw[Bool.eq_iff_iff];simp
  ·cases h;exact mU ho fun k i j=>by simp[binOp,Op.intCmp,pure,Sem.aM,a8];rw[Bool.eq_iff_iff];simp
  ·cases h;exact mU ho fun k i j=>by simp[binOp,Op.intCmp,pure,Sem.aM,nK,a8];rw[Bool.eq_iff_iff];simp
  ·cases h;refine zB ho (fun i j n hn=>?_) fun k i j=>by simp[binOp,Op.intArith,pure,Sem.aM]
   unfold Vb at hn
   split at hn
   ·cases hn;rfl
   ·cases hn
  ·cases h;refine zB ho (fun i j n hn=>?_) fun k i j=>by simp[binOp,Op.intArith,pure,Sem.aM];rfl
   unfold vZ at hn
   split at hn
   ·rename_i a b
    split at hn
    ·rename_i hb;rw[Dn,iB]at hb;cases hn
     show(a:Int)-b=((a-b:Nat):Int)
     omega
    ·cases hn
   ·cases hn
  ·cases h;exact zB ho (fun i j n hn=>by cases hn) fun k i j=>by simp[binOp,Op.intArith,pure,Sem.aM]
  ·cases h;refine uy ho (fun n i j hi hj=>Nat.or_lt_two_pow hi hj) fun k i j hi hj=>?_
   simp only[binOp,ne_eq,not_true_eq_false,if_false,Op.intBits,pure,Sem.aM];rw[BitVec.toNat_or,hi,hj];rfl
  ·cases h;refine uy ho (fun n i j hi hj=>Nat.and_lt_two_pow i hj) fun k i j hi hj=>?_
   simp only[binOp,ne_eq,not_true_eq_false,if_false,Op.intBits,pure,Sem.aM];rw[BitVec.toNat_and,hi,hj];rfl
  ·cases h;refine uy ho (fun n i j hi hj=>Nat.xor_lt_two_pow hi hj) fun k i j hi hj=>?_
   simp only[binOp,ne_eq,not_true_eq_false,if_false,Op.intBits,pure,Sem.aM];rw[BitVec.toNat_xor,hi,hj];rfl
  ·cases h;refine C4 ho (fun i j=>Nat.div_le_self i j) fun k i j hi=>?_
   simp only[binOp,ne_eq,not_true_eq_false,if_false,Op.intDiv,pure];rw[bW ai];simp only[Sem.aM];have e:(i:Int).tdiv (j+1:Nat)=((Nat.div i (j+1):Nat):Int):=rfl;rw[e,rS];rw[j3,iB]at hi⊢;exact Nat.lt_of_le_of_lt (Nat.div_le_self i _) hi
  ·cases h;refine C4 ho (fun i j=>Nat.mod_le i j) fun k i j hi=>?_
   simp only[binOp,ne_eq,not_true_eq_false,if_false,Op.intDiv,pure];rw[bW ai];rfl
  ·cases h;exact cI
 ·split at h
  ·cases h;exact xx (want:=true) ho
  ·cases h;exact xx (want:=false) ho
  ·cases h;exact MO ho
  ·cases h;exact cI
 ·cases h;exact cI
theorem q9 {v:ae}{k:Nat->Nat->Rs}{r:Ss}(h:AF v k=some r):∃b o,v= .pointer (some ⟨b,o,none⟩)/\k b o=some r:=by
 unfold AF at h
 split at h
 ·exact⟨_,_,rfl,h⟩
 ·cases h
theorem yh {α:Type}:∀(n:Nat) (l:List α),JV n l=l.drop n
 |0,l=>rfl
 |1,l=>by cases l<;>rfl
 |2,l=>by rcases l with _|⟨_,_|⟨_,l⟩⟩<;>rfl
 |3,l=>by rcases l with _|⟨_,_|⟨_,_|⟨_,l⟩⟩⟩<;>rfl
 |4,l=>by rcases l with _|⟨_,_|⟨_,_|⟨_,_|⟨_,l⟩⟩⟩⟩<;>rfl
 |5,l=>by rcases l with _|⟨_,_|⟨_,_|⟨_,_|⟨_,_|⟨_,l⟩⟩⟩⟩⟩<;>rfl
 |6,l=>by rcases l with _|⟨_,_|⟨_,_|⟨_,_|⟨_,_|⟨_,_|⟨_,l⟩⟩⟩⟩⟩⟩<;>rfl
 |7,l=>by rcases l with _|⟨_,_|⟨_,_|⟨_,_|⟨_,_|⟨_,_|⟨_,_|⟨_,l⟩⟩⟩⟩⟩⟩⟩<;>rfl
 |n+8,l=>by
  rcases l with _|⟨_,_|⟨_,_|⟨_,_|⟨_,_|⟨_,_|⟨_,_|⟨_,_|⟨_,l⟩⟩⟩⟩⟩⟩⟩⟩<;>simp only[JV]
  all_goals first |exact yh n l|simp
theorem CP (m:Mem)(b o n:Nat):OE m b o n=!meets m.bh b o n:=by
 unfold OE
 split
 ·rename_i h;rw[h];rfl
 ·rfl
theorem LS {m:Mem}{b o:Nat}{k:ae->Rs}{r:Ss}(h:z8 m b o k=some r):∃v,m.dK b o 1=some [v]/\k v=some r:=by
 unfold z8 at h
 split at h
 ·rename_i sz cs es c str pos st hb
  split at h
  ·rename_i hh;rw[CP]at hh;rw[yh]at h
   split at h
   ·rename_i v t hd;refine⟨v,?_,h⟩;unfold Mem.dK;simp only[hb,hh,hd];simp[fU]
   ·cases h
  ·cases h
 ·cases h
theorem Jd {t:aO}(ho:o.op= .load t x){f:lu}(h:Je P o t (ex x)=some f):ej P o f:=by
 unfold Je at h
 split at h
 ·rename_i ha
  split at h
  ·rename_i n hn;cases h;intro call tm m df k r h;unfold LQ at h;obtain⟨b,q,hx,h⟩:=q9 h;unfold adb at h
   split at h
   ·rename_i l hl;refine⟨_,_,_,h,.of ?_⟩;unfold dE;rw[ho];simp only[hx,ky,ha,hn,dq,hl,cU]
   ·cases h
  ·cases h;exact cI
 ·rename_i ha;cases h;intro call tm m df k r h;unfold LR at h;obtain⟨b,q,hx,h⟩:=q9 h;obtain⟨v,hv,h⟩:=LS h;refine⟨_,_,_,h,.of ?_⟩;unfold dE;rw[ho];simp only[hx,ky,ha,hv,dq,List.head?_cons,cU]
 ·cases h;exact cI
theorem AW:∀(n:Nat) (l:List (Option ae)) (v:ae) (l':List (Option ae)),wi n l v=some l'->eD l n [v]=some l'
 |0,l,v,l',h=>by
  unfold wi at h
  split at h
  ·cases h;simp[eD]
  ·cases h
 |1,l,v,l',h=>by
  unfold wi at h
  split at h
  ·cases h;simp[eD]
  ·cases h
 |2,l,v,l',h=>by
  unfold wi at h
  split at h
  ·cases h;simp[eD]
  ·cases h
 |3,l,v,l',h=>by
  unfold wi at h
  split at h
  ·cases h;simp[eD]
  ·cases h
 |4,l,v,l',h=>by
  unfold wi at h
  split at h
  ·cases h;simp[eD]
  ·cases h
 |5,l,v,l',h=>by
  unfold wi at h
  split at h
  ·cases h;simp[eD]
  ·cases h
 |6,l,v,l',h=>by
  unfold wi at h
  split at h
  ·cases h;simp[eD]
  ·cases h
 |7,l,v,l',h=>by
  unfold wi at h
  split at h
  ·cases h;simp[eD]
  ·cases h
 |n+8,l,v,l',h=>by
  unfold wi at h
  split at h
  ·split at h
   ·rename_i t' ht;cases h;have :=AW n _ v t' ht;simp[eD,this]
   ·cases h
  ·cases h
theorem P1 {m:Mem}{b o:Nat}(h:P2 m b o=true):m.dh b o 1=true:=by
 unfold P2 at h
 split at h
 ·rename_i h1 h2;rw[Dn,iB]at h h1;unfold Mem.dh;rw[h2];simp[meets,h,h1]
 ·exact h
theorem Ic {m:Mem}{b o:Nat}{v:ae}{k:Mem->Rs}{r:Ss}(hv:v.oneCell'=true)(h:BF m b o v k=some r):∃m',m.dP b o [v]=some m'/\k m'=some r:=by
 unfold BF at h
 split at h
 ·rename_i sz cs es c str pos st hb
  split at h
  ·rename_i hm
   split at h
   ·rename_i jf gT;refine⟨_,?_,h⟩;unfold Mem.dP;simp only[hb,List.length_singleton,P1 hm,List.all_cons,hv,List.all_nil,AW _ _ _ _ gT,cU];rfl
   ·cases h
  ·cases h
 ·cases h
theorem PK {v:ae}(h:lj v=true):v.oneCell'=true/\v.cells=#[v]:=by
 cases v<;>first |exact⟨rfl,rfl⟩|cases h
theorem F6 {t:aO}{p:bS}(ho:o.op= .store t p x){f:lu}(h:BC P o t (ex p) (ex x)=some f):ej P o f:=by
 unfold BC at h
 split at h
 ·rename_i n hn;cases h;intro call tm m df k r h;unfold AV at h;obtain⟨b,q,hp,h⟩:=q9 h
  split at h
  ·rename_i cs hx
   split at h
   ·rename_i hs;rw[Kk,iB]at hs;unfold agE at h
    split at h
    ·rename_i m' hm;refine⟨_,_,_,h,.of ?_⟩;unfold dE;rw[ho];simp only[hp,v8,hx];rw[bj (by rw[hn,hs];rfl)]
     show(m.dP b q cs.toList).map _=_
     rw[hm];rfl
    ·cases h
   ·cases h
  ·split at h
   ·rename_i hs
    split at h
    ·rename_i hv;obtain⟨h1,h2⟩:=PK hv;obtain⟨m',hm,h⟩:=Ic h1 h;refine⟨_,_,_,h,.of ?_⟩;unfold dE;rw[ho];simp only[hp,v8];rw[Kk,iB]at hs;rw[h2,bj (by rw[hn,hs];rfl)]
     show(m.dP b q [dz tm x]).map _=_
     rw[hm];rfl
    ·cases h
   ·cases h
 ·cases h;exact cI
theorem zn {st:aO}{p:bS}{f:Nat}(ho:o.op= .fieldAddr st p f){q:lu}(h:pN P o st (ex p) f=some q):ej P o q:=by
 unfold pN at h
 split at h
 ·rename_i fields hu
  split at h
  ·rename_i fd hfd
   split at h
   ·rename_i n hn;cases h;intro call tm m df k r h;unfold Nb at h;obtain⟨b,c,hp,h⟩:=q9 h;refine⟨_,_,_,h,.of ?_⟩;unfold dE;rw[ho];simp only[sw,hu,hp,hfd,hn];rfl
   ·cases h;exact cI
  ·cases h;exact cI
 ·cases h;exact cI
theorem E0 {v:ae}{len:Nat}{k:Nat->Rs}{r:Ss}(h:PY v len k=some r):∃ki n,v= .int ki (.ofNat n)/\n<len/\k n=some r:=by
 unfold PY at h
 split at h
 ·split at h
  ·rename_i hb;rw[j3,iB]at hb;exact⟨_,_,rfl,hb,h⟩
  ·cases h
 ·cases h
theorem y8 {t:aO}{i:bS}(ho:o.op= .indexAddr t x i){q:lu}(h:pI P o t (ex x) (ex i)=some q):ej P o q:=by
 unfold pI at h
 split at h
 ·rename_i e hu
  split at h
  ·rename_i s hs;cases h;intro call tm m df k r h;unfold GZ at h
   split at h
   ·rename_i b c len cap hx;obtain⟨ki,n,hi,cB,h⟩:=E0 h;refine⟨_,_,_,h,.of ?_⟩;unfold dE;rw[ho];simp only[pJ,hu,hx,hi];rw[bj ⟨du,by simp;omega⟩,hs];simp only[cU,Int.ofNat_eq_natCast,Int.toNat_natCast];rfl
   ·cases h
  ·cases h;exact cI
 ·rename_i len e hu
  split at h
  ·rename_i s hs;cases h;intro call tm m df k r h;unfold G1 at h;obtain⟨b,c,hx,h⟩:=q9 h;obtain⟨ki,n,hi,cB,h⟩:=E0 h;refine⟨_,_,_,h,.of ?_⟩;unfold dE;rw[ho];simp only[pJ,hu,hx,hi];rw[bj ⟨du,by simp;omega⟩,hs];simp only[cU,Int.ofNat_eq_natCast,Int.toNat_natCast];rfl
  ·cases h;exact cI
 ·cases h;exact cI
theorem FE:∀(l:List UInt8) (n:Nat),wN l n=l[n]?
 | [],n=>by simp[wN]
 |b::l,0=>rfl
 |b::l,n+1=>by simp[wN,FE l n]
theorem MQ (s:ByteArray)(n:Nat):s[n]?=s.data.toList[n]?:=by
 rw[Array.getElem?_toList]
 by_cases h:n<s.size
 ·rw[getElem?_pos s n h,Array.getElem?_eq_getElem h];rfl
 ·rw[getElem?_neg s n h,Array.getElem?_eq_none (by simpa using h)]
theorem G0 {t:aO}{i:bS}(ho:o.op= .index t x i){q:lu}(h:CC P o t (ex x) (ex i)=some q):ej P o q:=by
 unfold CC at h
 split at h
 ·rename_i hu;cases h;intro call tm m df k r h;unfold U0 at h
  split at h
  ·rename_i s hx
   split at h
   ·rename_i ki n hi
    split at h
    ·rename_i b hb;rw[FE]at hb;refine⟨_,_,_,h,.of ?_⟩;unfold dE;rw[ho];have e1:wB P t (dz tm x) (dz tm i)=none:=by unfold wB;rw[hu]
     have e2:dp P (dz tm) o=some (.int .u8 (.ofNat b.toNat)):=by
      refine hY ?_ ?_ rfl
      ·rw[ho];simp only[Op.operands];simp[show dz tm x= .string s from hx,show dz tm i= .int ki (.ofNat n)from hi,plain,de]
      ·unfold execOp;rw[ho];simp only[show dz tm x= .string s from hx,show dz tm i= .int ki (.ofNat n)from hi,Instr.index,asIntOf,pure_bind];have nU:s[(Int.ofNat n).toNat]?=some b:=by rw[MQ];exact hb
       refine(iN (a:= .int .u8 (.ofNat b.toNat)) ?_).trans rfl;rw[iN (fE hu)];simp only[nU];rw[bj du];rfl
     simp only[e1,e2];rfl
    ·cases h
   ·cases h
  ·cases h
 ·cases h;exact cI
end
end Go.AM
namespace Go.AM
open Go
section
variable {P:aC}{o:gK}{x y:bS}
theorem LY {lf kW:Array _}{t:aO}{l:List aO}(ho:o.op= .call {callee:= .builtin .len,args:=lf,argTypes:=kW})(ha:lf.toList=[x])(ht:kW.toList=t::l){q:lu}(h:Tx P o t (ex x)=some q):ej P o q:=by
 have acw:(kW[0]?:Option aO)=some t:=by rw[<-Array.getElem?_toList,ht];rfl
 unfold Tx at h
 split at h
 ·rename_i hu;cases h;intro call tm m df k r h;unfold LX at h
  split at h
  ·rename_i s hx;refine⟨_,_,_,h,.of ?_⟩;have vp:dz tm x= .string s:=hx;have has:lf=#[x]:=by apply Array.ext';simpa using ha
   have e:dp P (dz tm) o=some (.int .i64 (.ofNat s.size)):=by
    refine hY ?_ ?_ rfl
    ·rw[ho];simp[Op.operands,Call.operands,has,vp,plain,de]
    ·unfold execOp;rw[ho];simp only[resolve,pure_bind,invoke,builtin];refine(iN (a:= .int .i64 (.ofNat s.size)) ?_).trans rfl;unfold Builtin.len_;simp only[has,acw,List.map_toArray,List.map_cons,List.map_nil,List.getElem?_toArray,List.getElem?_cons_zero,vp];rw[iN (fE hu)];rfl
   unfold dE;rw[ho];simp only[ha,acw,dq,hu,vp,e];rfl
  ·cases h
 ·rename_i et hu;cases h;intro call tm m df k r h;unfold Tw at h
  split at h
  ·rename_i a n c hx;refine⟨_,_,_,h,.of ?_⟩;have vp:dz tm x= .slice a n c:=hx;unfold dE;rw[ho];simp only[ha,acw,dq,hu,vp];rfl
  ·cases h
 ·cases h;exact cI
theorem C0 {i:Nat}(ho:o.op= .extract x i):ej P o (x9 (ex x) i):=by
 intro call tm m df k r h;unfold x9 at h
 split at h
 ·rename_i vs hx
  split at h
  ·rename_i v hv;refine⟨_,_,_,h,.of ?_⟩;have vp:dz tm x= .tuple vs:=hx;unfold dE;rw[ho];rw[Array.getElem?_toList]at hv;simp only[vp,hv,cU]
  ·cases h
 ·cases h
theorem LK {t:aO}(ho:o.op= .unOp .not t x):ej P o (WK (ex x)):=by
 intro call tm m df k r h;unfold WK at h
 split at h
 ·rename_i b hx;have vp:dz tm x= .bool b:=hx;refine⟨_,_,_,h,.of ?_⟩;have e:dp P (dz tm) o=some (.bool (!b)):=by
   refine hY ?_ ?_ rfl
   ·rw[ho];simp[Op.operands,vp,plain,de]
   ·unfold execOp;rw[ho];simp only[vp];rfl
  unfold dE;rw[ho];simp only[e,cU]
 ·cases h
theorem LL (ho:o.op= .nilCheck x):ej P o (SZ P o (ex x)):=by
 intro call tm m df k r h;unfold SZ at h
 split at h
 ·rename_i a hx;have vp:dz tm x= .pointer (some a):=hx;refine⟨_,_,_,h,.of ?_⟩;unfold dE;rw[ho];simp only[vp]
 ·exact cI call tm m df k r h
theorem HH {e:aO}{z:ae}(ho:o.op= .alloc e)(hz:iw P e=some z):ej P o (U' (z.cells.toList.map some)):=by
 intro call tm m df k r h;refine⟨_,_,_,h,.of ?_⟩;unfold dE;rw[ho];simp only[hz,cU];rfl
theorem MR {e:aO}(ho:o.op= .box e x):ej P o (aih (ex x)):=by
 intro call tm m df k r h;refine⟨_,_,_,h,.of ?_⟩;unfold dE;rw[ho];rfl
theorem Cg {lf kW:Array _}{nS:Bool}(ho:o.op= .call {callee:= .builtin (if nS then .max else .min),args:=lf,argTypes:=kW})(ha:lf.toList=[x,y]):ej P o (LO P o nS (ex x) (ex y)):=by
 intro call tm m df k r h;unfold LO at h
 split at h
 ·rename_i a i hx
  split at h
  ·rename_i b j hy;have vp:dz tm x= .int a i:=hx;have DJ:dz tm y= .int b j:=hy;refine⟨_,_,_,h,.of ?_⟩;have has:lf=#[x,y]:=by apply Array.ext';simpa using ha
   have e:dp P (dz tm) o=some (.int a (if cO j i then(if nS then i else j)else(if nS then j else i))):=by
    refine hY ?_ ?_ rfl
    ·rw[ho];cases nS<;>simp[Op.operands,Call.operands,has,vp,DJ,plain,de]
    ·unfold execOp;rw[ho];cases nS
     ·simp only[cF,if_false,resolve,pure_bind,invoke,builtin,has,List.map_toArray,List.map_cons,List.map_nil,vp,DJ];refine(iN (a:= .int a (if cO j i then j else i)) ?_).trans rfl;rw[fG];simp only[Builtin.min_,List.foldlM,Builtin.min2,pure_bind,iB];rfl
     ·simp only[if_true,resolve,pure_bind,invoke,builtin,has,List.map_toArray,List.map_cons,List.map_nil,vp,DJ];refine(iN (a:= .int a (if cO j i then i else j)) ?_).trans rfl;rw[fG];have hm:(if j>i then j else i)=if j<i then i else j:=by split<;>split<;>omega
      simp only[Builtin.max_,List.foldlM,Builtin.max2,pure_bind,iB,hm];rfl
   unfold dE;rw[ho];cases nS
   ·simp only[cF,if_false]at e⊢;rw[e];rfl
   ·simp only[if_true]at e⊢;rw[e];rfl
  ·cases h
 ·exact cI call tm m df k r h
theorem Kf {f:Nat}{lf kW:Array _}{os:List j9}(ho:o.op= .call {callee:= .value (.func f),args:=lf,argTypes:=kW})(CK:∀tm,KN os tm=lf.toList.map (dz tm)):ej P o (UX f os):=by
 intro call tm m df k r h;obtain⟨v,m',hc,h⟩:=wL h;refine⟨_,_,_,h,.inr (.inl ⟨f,_,.inl ⟨_,_,_,#[],#[],ho,rfl,rfl⟩,?_,rfl⟩)⟩;simpa[CK tm]using hc
theorem Ka {lf kW:Array _}{os:List j9}(ho:o.op= .call {callee:= .value x,args:=lf,argTypes:=kW})(CK:∀tm,KN os tm=lf.toList.map (dz tm)):ej P o (Kb (ex x) os):=by
 intro call tm m df k r h;unfold Kb at h
 split at h
 ·rename_i f first cap hx
  obtain⟨v,m',hc,h⟩:=wL h;refine⟨_,_,_,h,.inr (.inl ⟨f,_,.inl ⟨_,_,_,first,cap,ho,hx,rfl⟩,?_,rfl⟩)⟩;rw[<-CK tm];exact hc
 ·cases h
theorem Ke {rc:bS}{name:String}{lf kW:Array _}{os:List j9}(ho:o.op= .call {callee:= .invoke rc name,args:=lf,argTypes:=kW})(CK:∀tm,KN os tm=lf.toList.map (dz tm)):ej P o (O1 P (ex rc) name os):=by
 intro call tm m df k r h;unfold O1 at h
 split at h
 ·rename_i f recv hx;obtain⟨v,m',hc,h⟩:=wL h;refine⟨_,_,_,h,.inr (.inl ⟨f,_,.inr ⟨_,_,_,_,recv,ho,hx,rfl⟩,?_,rfl⟩)⟩;rw[<-CK tm];exact hc
 ·cases h
theorem Hm {lf kW:Array _}{os:List j9}(ho:o.op= .defer {callee:= .value x,args:=lf,argTypes:=kW})(CK:∀tm,KN os tm=lf.toList.map (dz tm)):ej P o (Hn (ex x) os):=by
 intro call tm m df k r h;unfold Hn at h
 split at h
 ·rename_i f first cap hx
  refine⟨_,_,_,h,.inr (.inr ⟨f,_,⟨_,_,_,first,cap,ho,hx,rfl⟩,rfl,rfl,?_⟩)⟩;rw[<-CK tm]
 ·cases h
theorem J3 {op:lu}(h:gX P o=some op):ej P o op:=by
 unfold gX at h
 split at h
 ·rename_i ho;have :=aH h;cases this;exact zY (.inl ho)
 ·rename_i ho;have :=aH h;cases this;exact zY (.inr ho)
 ·rename_i ho;have :=aH (aH (aH h));cases this;exact IN ho
 ·rename_i ho;exact MW ho (aH (aH h))
 ·rename_i ho;exact Jd ho (aH h)
 ·rename_i ho;exact F6 ho (aH (aH h))
 ·rename_i ho;exact zn ho (aH h)
 ·rename_i ho;exact y8 ho (aH (aH h))
 ·rename_i ho;exact G0 ho (aH (aH h))
 ·rename_i ho;have :=aH h;cases this;exact C0 ho
 ·rename_i ho;have :=aH h;cases this;exact LK ho
 ·rename_i ho;have :=aH h;cases this;exact LL ho
 ·rename_i ho
  split at h
  ·rename_i z hz;cases h;exact HH ho hz
  ·cases h
 ·rename_i ho;have :=aH h;cases this;exact MR ho
 ·rename_i ho
  split at h
  ·rename_i ha;have :=aH (aH h);cases this;exact Cg (nS:=false) ho ha
  ·cases h;exact cI
 ·rename_i ho
  split at h
  ·rename_i ha;have :=aH (aH h);cases this;exact Cg (nS:=true) ho ha
  ·cases h;exact cI
 ·rename_i ho;obtain⟨os,h,CK⟩:=fF h;cases h;exact Kf ho CK
 ·rename_i ho;obtain⟨os,h,CK⟩:=fF (aH h);cases h;exact Ka ho CK
 ·rename_i ho;obtain⟨os,h,CK⟩:=fF (aH h);cases h;exact Ke ho CK
 ·rename_i ho
  split at h
  ·rename_i ha ht;exact LY ho ha ht (aH h)
  ·cases h;exact cI
 ·rename_i ho;obtain⟨os,h,CK⟩:=fF (aH h);cases h;exact Hm ho CK
 ·cases h;exact cI
def Gp (d:Option Tmp)(v:ae)(tm:Tm):Tm:=
 match d with
 |some d=>tC d v tm
 |none=>tm
def aae (P:aC)(nt:Nat)(o:gK):Prop:=(∀x∈o.op.operands,rD nt P.globals.size x=true)/\(∀d,o.dst=some d->d<512)
def qE (P:aC)(call:cE)(nt:Nat)(ops:Array gK)(i:Nat)(tm:Tm)(m:Mem)(df:Df)(cV:Tm)(m':Mem)(lX:Df):Prop:=
 ∃o,ops[i]?=some o/\aae P nt o/\(∀j want,o.guard=some (j,want)->∃g,(ops[j]?).bind (·.dst)=some g/\g<nt/\g<512)/\
  ((cY ops o tm=true/\∃v,zD P call o tm m df v m' lX/\cV=Gp o.dst v tm)\/(cY ops o tm=false/\cV=Gp o.dst undef tm/\m'=m/\lX=df))
theorem B6 {nt i:Nat}{ops:Array gK}{rest f:im}(h:SE P nt ops i rest=some f){call:cE}{tm:Tm}{m:Mem}{df:Df}{r:Ss}(hf:f call tm m df=some r):
  ∃cV m' lX,qE P call nt ops i tm m df cV m' lX/\rest call cV m' lX=some r:=by
 unfold SE at h
 split at h
 ·cases h
 ·rename_i o ho
  split at h
  ·rename_i hg
   split at h
   ·cases h
   ·rename_i op dC;have hs:=J3 dC;have nE:∀x∈o.op.operands,rD nt P.globals.size x=true:=fun x hx=>aB.1 hg x (by simpa using hx)
    split at h
    ·rename_i jK;have hw:∀tm,cY ops o tm=true:=fun tm=>by unfold cY;rw[jK]
     split at h
     ·rename_i d hd;obtain⟨acy,h⟩:=ja h;cases h;obtain⟨v,m',lX,hk,Ms⟩:=hs _ _ _ _ _ _ hf;refine⟨_,m',lX,⟨o,ho,⟨nE,fun d' yD=>by rw[hd]at yD;cases yD;exact acy⟩,fun j w hj=>(by rw[jK]at hj;cases hj),.inl ⟨hw tm,v,Ms,rfl⟩⟩,?_⟩;rw[hd];exact hk
     ·rename_i hd;cases h;obtain⟨v,m',lX,hk,Ms⟩:=hs _ _ _ _ _ _ hf;refine⟨_,m',lX,⟨o,ho,⟨nE,fun d' yD=>by rw[hd]at yD;cases yD⟩,fun j w hj=>(by rw[jK]at hj;cases hj),.inl ⟨hw tm,v,Ms,rfl⟩⟩,?_⟩;rw[hd];exact hk
    ·rename_i j want jK
     split at h
     ·rename_i g XK
      split at h
      ·rename_i hgn;rw[j3,iB]at hgn;obtain⟨ahp,h⟩:=ja h;have hgs:∀j' w,o.guard=some (j',w)->∃g,(ops[j']?).bind (·.dst)=some g/\g<nt/\g<512:=fun j' w hj=>by rw[jK]at hj;cases hj;exact⟨g,XK,hgn,ahp⟩
       have hw:∀tm,cY ops o tm=(match dj g tm with | .bool b=>b==want|_=>false):=fun tm=>by unfold cY;rw[jK];simp only[XK]<;>rfl
       split at h
       ·rename_i d hd;obtain⟨acy,h⟩:=ja h;cases h;have Q8:∀d',o.dst=some d'->d'<512:=fun d' yD=>by rw[hd]at yD;cases yD;exact acy
        have skip:cY ops o tm=false->rest call (tC d undef tm) m df=some r->∃cV m' lX,qE P call nt ops i tm m df cV m' lX/\rest call cV m' lX=some r:=fun DL hr=>
         ⟨_,m,df,⟨o,ho,⟨nE,Q8⟩,hgs,.inr ⟨DL,rfl,rfl,rfl⟩⟩,by rw[hd];exact hr⟩
        have go:cY ops o tm=true->op call tm m df (Wy (tC d) rest call tm)=some r->∃cV m' lX,qE P call nt ops i tm m df cV m' lX/\rest call cV m' lX=some r:=fun Ad hr=>by
         obtain⟨v,m',lX,hk,Ms⟩:=hs _ _ _ _ _ _ hr;exact⟨_,m',lX,⟨o,ho,⟨nE,Q8⟩,hgs,.inl ⟨Ad,v,Ms,rfl⟩⟩,by rw[hd];exact hk⟩
        unfold Hb at hf
        split at hf
        ·rename_i hb;cases want with
         |true=>exact go (by rw[hw,hb];rfl) hf
         |false=>exact skip (by rw[hw,hb];rfl) hf
        ·rename_i hb;cases want with
         |true=>exact skip (by rw[hw,hb];rfl) hf
         |false=>exact go (by rw[hw,hb];rfl) hf
        ·rename_i nN nU;refine skip ?_ hf;rw[hw]
         split
         ·rename_i b hb;cases b
          ·exact absurd hb nU
          ·exact absurd hb nN
         ·rfl
       ·rename_i hd;cases h;have Q8:∀d',o.dst=some d'->d'<512:=fun d' yD=>by rw[hd]at yD;cases yD
        have skip:cY ops o tm=false->rest call tm m df=some r->∃cV m' lX,qE P call nt ops i tm m df cV m' lX/\rest call cV m' lX=some r:=fun DL hr=>
         ⟨_,m,df,⟨o,ho,⟨nE,Q8⟩,hgs,.inr ⟨DL,rfl,rfl,rfl⟩⟩,by rw[hd];exact hr⟩
        have go:cY ops o tm=true->op call tm m df (noK rest call tm)=some r->∃cV m' lX,qE P call nt ops i tm m df cV m' lX/\rest call cV m' lX=some r:=fun Ad hr=>by
         obtain⟨v,m',lX,hk,Ms⟩:=hs _ _ _ _ _ _ hr;exact⟨_,m',lX,⟨o,ho,⟨nE,Q8⟩,hgs,.inl ⟨Ad,v,Ms,rfl⟩⟩,by rw[hd];exact hk⟩
        unfold Ha at hf
        split at hf
        ·rename_i hb;cases want with
         |true=>exact go (by rw[hw,hb];rfl) hf
         |false=>exact skip (by rw[hw,hb];rfl) hf
        ·rename_i hb;cases want with
         |true=>exact skip (by rw[hw,hb];rfl) hf
         |false=>exact go (by rw[hw,hb];rfl) hf
        ·rename_i nN nU;refine skip ?_ hf;rw[hw]
         split
         ·rename_i b hb;cases b
          ·exact absurd hb nU
          ·exact absurd hb nN
         ·rfl
      ·cases h
     ·cases h
  ·cases h
end
end Go.AM
namespace Go.AM
open Go Go.Conc
def Perm.or(R E:Perm):Perm:=⟨fun b o=>R.rd b o\/E.rd b o,fun b o=>R.wr b o\/E.wr b o,fun b=>R.ob b\/E.ob b,R.deaf⟩
structure w9 (R:Perm)(w:ao):Prop where
 rd:∀b o,R.rd b o->b<w.heap.size
 wr:∀b o,R.wr b o->R.rd b o
 ob:∀b,R.ob b->b<w.heap.size/\w.shape? b=none
theorem w9.keeps{R R':Perm}{w aN:ao}(h:w9 R w)(k:bg R' w aN):w9 R aN:=
 ⟨fun b o x=>aW (h.rd b o x) k.size,h.wr,fun b x=>⟨aW (h.ob b x).1 k.size,by rw[k.shape b (h.ob b x).1];exact(h.ob b x).2⟩⟩
theorem bg.sub{R R':Perm}{w aN:ao}(h:bg R w aN)(hr:∀b o,R'.rd b o->R.rd b o)(ho:∀b,R'.ob b->R.ob b):bg R' w aN:=
 ⟨h.tape,h.os,h.output,h.size,h.shape,fun b o x=>h.cell b o (hr b o x),h.qQ,fun b x=>h.obj b (ho b x)⟩
theorem bg.left{R E:Perm}{w aN:ao}(h:bg (R.or E) w aN):bg R w aN:=h.sub (fun _ _=> .inl) fun _=> .inl
theorem bg.right{R E:Perm}{w aN:ao}(h:bg (R.or E) w aN):bg E w aN:=h.sub (fun _ _=> .inr) fun _=> .inr
def EvW (R:Perm)(e:Event):Prop:=nJ R e\/e.loc= .mark .disable\/e.loc= .mark .enable
structure Stepped (P:aC)(main:Bool)(R:Perm)(g:ak)(w:ao)(R':Perm)(g':ak)(w':ao)(es:Array Event):Prop where
 step:stepG P main g w= .go g' w' es
 OX:tu R w.heap.size w w'
 ev:∀e∈es,EvW R e
 within:eK R R' w.heap.size
 deaf:R'.deaf=deafBehind R.deaf es
 low:w9 R w->w9 R' w'
structure fY (P:aC)(main:Bool)(J:Nat->Perm->ak->ao->Prop):Prop where
 mono:∀{n:Nat}{R:Perm}{g:ak}{w:ao},J n R g w->J (n+1) R g w
 step:∀{n:Nat}{R:Perm}{g:ak}{w:ao},g.status= .running->(∀aN,bg R w aN->∃g' w' es R',Stepped P main R g aN R' g' w' es/\J n R' g' w')->J (n+1) R g w
theorem fY.le{P:aC}{main:Bool}{J:Nat->Perm->ak->ao->Prop}(h:fY P main J){n m:Nat}(hn:n<=m){R:Perm}{g:ak}{w:ao}(hj:J n R g w):J m R g w:=by
 induction hn with
 |refl=>exact hj
 |step _ ih=>exact h.mono ih
theorem od (d:Nat):∀(l:List Event),(∀e∈l,e.loc≠ .mark .disable/\e.loc≠ .mark .enable)->deafBehind d l.toArray=d:=by
 intro l h;unfold deafBehind;simp only[List.foldl_toArray]
 induction l with
 |nil=>rfl
 |cons e l ih=>
  have h1:=h e du;simp only[List.foldl_cons];refine Eq.trans (congrArg (fun x=>List.foldl _ x l) ?_) (ih fun x hx=>h x (by simp[hx]))
  split
  ·rename_i hh;exact absurd hh h1.1
  ·rename_i hh;exact absurd hh h1.2
  ·rfl
theorem nJ.loc{R:Perm}{e:Event}(h:nJ R e):e.loc≠ .mark .disable/\e.loc≠ .mark .enable:=by
 constructor<;>intro hl<;>unfold nJ at h<;>rw[hl]at h<;>exact h
theorem kz {R:Perm}{es:Array Event}(h:∀e∈es,nJ R e)(d:Nat):deafBehind d es=d:=by
 have :=od d es.toList fun e he=>(h e (by simpa using he)).loc
 simpa using this
structure Apart (E R:Perm)(w:ao):Prop where
 cell:∀b o,E.rd b o->b<w.heap.size/\¬R.wr b o
 obj:∀b,E.ob b->b<w.heap.size/\¬R.ob b/\w.shape? b=none
 wf:∀b o,E.wr b o->E.rd b o
theorem Apart.within{E R R':Perm}{w w':ao}(h:Apart E R w)(k:eK R R' w.heap.size)(hs:w.heap.size<=w'.heap.size)(fI:∀b,b<w.heap.size->w'.shape? b=w.shape? b):Apart E R' w':=
 ⟨fun b o he=>⟨aW (h.cell b o he).1 hs,fun hw=>(k.wr b o hw).elim (h.cell b o he).2 fun hn=>absurd (h.cell b o he).1 ai⟩,
  fun b he=>⟨aW (h.obj b he).1 hs,fun hw=>(k.ob b hw).elim (h.obj b he).2.1 fun hn=>absurd (h.obj b he).1 ai,by rw[fI b (h.obj b he).1];exact(h.obj b he).2.2⟩,h.wf⟩
theorem Apart.aav{E R:Perm}{w w':ao}(h:Apart E R w)(c:tu R w.heap.size w w'):bg E w w':=
 ⟨c.tape,c.os,c.output,c.size,fun b hb=>c.shape b hb,fun b o he=>c.cell b o (h.cell b o he).1 (h.cell b o he).2,fun b o hb=>c.qQ b o hb,fun b he=>c.obj b (h.obj b he).1 (h.obj b he).2.1 (h.obj b he).2.2⟩
def ApC (E:Perm)(ρ:dw)(m:Mem):Prop:=∀b p x,ρ b=some p->m.base<=b->p.d<=x->x<p.d+p.room->m.nC b (x-p.d)->¬E.rd p.c x
theorem SH {m m':Mem}(hf:Fr m m')(hw:Wf m){b o:Nat}(hb:b<m.next)(h:m'.nC b o):m.nC b o:=by
 obtain⟨h1,h2,h3⟩:=h;have hh:bz m.bh b o=false:=by rw[<-hf.bh];exact h2
 have live:o<(m.blk b).cs.length->∃v,(m.blk b).cs[o]?=some (some v):=fun ho=>by
  have e:=List.getElem?_eq_getElem ho;cases hv:(m.blk b).cs[o]with
  |none=>exact absurd hv ((hw.live b).1 _ (List.getElem_mem ho))
  |some v=>exact⟨v,by rw[e,hv]⟩
 rcases hf.blk b with e|⟨_,h4|⟨_,_,_,h4⟩|⟨_,_,h4,h5⟩|⟨_,h4,_⟩⟩
 ·rw[e]at h1;exact⟨h1,hh,live⟩
 ·omega
 ·rw[h4]at h1;cases h1
 ·rw[h5]at h1;exact absurd h1 h4
 ·exact⟨h4,hh,live⟩
theorem ApC.step{E:Perm}{ρ bq:dw}{m m':Mem}{w:ao}(h:ApC E ρ m)(hw:Wf m)(ha:Apart E (ax ρ m) w)(hf:Fr m m')(hold:∀b,b<m.next->bq b=ρ b)(hwi:eK (ax ρ m) (ax bq m') w.heap.size):ApC E bq m':=by
 intro b p x hp hb h1 h2 h3 he
 by_cases cB:b<m.next
 ·rw[hold b cB]at hp;exact h b p x hp (by rw[<-hf.base];exact hb) h1 h2 (SH hf hw cB h3) he
 ·rcases hwi.wr p.c x ⟨b,p,hp,rfl,h1,h2,h3,.inl (by rw[hf.floor];have :=hw.fl;omega)⟩with g|g
  ·exact(ha.cell _ _ he).2 g
  ·have :=(ha.cell _ _ he).1;omega
structure dk (P:aC)(E:Perm)(bl:ao)(σ:nz)(ρ:dw)(m:Mem)(w:ao):Prop where
 jM:fL ρ m w
 rest:bg E bl w
 apart:Apart E (ax ρ m) w
 nW:∀g,g<P.globals.size->∃p,ρ g=some p/\p.c=g/\p.d=0
 fD:GOk σ ρ m
 wf:Wf m
 M9:ApC E ρ m
 ew:∀b o,E.wr b o->¬(ax ρ m).rd b o
theorem fL.low{ρ:dw}{m:Mem}{w:ao}(h:fL ρ m w):w9 (ax ρ m) w:=by
 refine⟨fun b o hr=>?_,fun b o hr=>lI hr,fun b hr=>?_⟩
 ·obtain⟨x,p,h1,rfl,_⟩:=hr;exact h.rB x p h1
 ·obtain⟨x,p,h1,rfl,h2,h3⟩:=hr;refine⟨h.rB x p h1,?_⟩;rcases h2 with h2|h2
  ·obtain⟨es,h4,_⟩:=h.maps x p h1 h2 h3;unfold ao.shape?;rw[h4]
  ·obtain⟨_,h4⟩:=h.kX x p h1 h2 h3;unfold ao.shape?;rw[h4]
section
variable {P:aC}{E:Perm}{bl:ao}{σ:nz}{ρ:dw}{m:Mem}{w:ao}
theorem Cm (h:fL ρ m w)(a:Apart E (ax ρ m) w):w9 ((ax ρ m).or E) w:=
 ⟨fun b o x=>x.elim (h.low.rd b o) fun y=>(a.cell b o y).1,fun b o x=>x.elim (fun y=> .inl (h.low.wr b o y)) fun y=> .inr (a.wf b o y),fun b x=>x.elim (h.low.ob b) fun y=>⟨(a.obj b y).1,(a.obj b y).2.2⟩⟩
theorem dk.low(h:dk P E bl σ ρ m w):w9 ((ax ρ m).or E) w:=Cm h.jM h.apart
theorem dk.keeps{aN:ao}(h:dk P E bl σ ρ m w)(k:bg ((ax ρ m).or E) w aN):dk P E bl σ ρ m aN:=
 ⟨h.jM.keeps k.left,h.rest.trans k.right,h.apart.within (eK.refl _ _) k.size k.shape,h.nW,h.fD,h.wf,h.M9,h.ew⟩
theorem dk.left{bq:dw}{m':Mem}{w':ao}(h:dk P E bl σ ρ m w)(l:Left ρ m w bq m' w')(f:jg m m')(c:tu (ax ρ m) w.heap.size w w'):dk P E bl σ bq m' w':=
 ⟨l.jM,h.rest.trans (h.apart.aav c),h.apart.within l.within c.size c.shape,fun g hg=>let⟨p,h1,h2⟩:=h.nW g hg;⟨p,l.le _ _ h1,h2⟩,h.fD.fr f.1 l.le l.old,f.2.2 h.wf,h.M9.step h.wf h.apart f.1 l.old l.within,
  fun b o he hr=>(l.within.rd b o hr).elim (h.ew b o he) fun hN=>by have :=(h.apart.cell b o (h.apart.wf b o he)).1;omega⟩
theorem eK.or{R R' E:Perm}{N:Nat}(h:eK R R' N):eK (R.or E) (R'.or E) N:=
 ⟨fun b o x=>x.elim (fun y=>(h.rd b o y).imp .inl id) fun y=> .inl (.inr y),fun b o x=>x.elim (fun y=>(h.wr b o y).imp .inl id) fun y=> .inl (.inr y),fun b x=>x.elim (fun y=>(h.ob b y).imp .inl id) fun y=> .inl (.inr y)⟩
theorem tu.or{R E:Perm}{N:Nat}{w w':ao}(h:tu R N w w'):tu (R.or E) N w w':=
 ⟨h.tape,h.os,h.output,h.size,h.shape,fun b o hb hw=>h.cell b o hb fun x=>hw (.inl x),h.qQ,fun b hb ho=>h.obj b hb fun x=>ho (.inl x)⟩
theorem nJ.or{R E:Perm}{e:Event}(h:nJ R e):nJ (R.or E) e:=by
 unfold nJ at h⊢
 split at h
 ·refine⟨h.1,?_⟩
  split
  ·rename_i hw;have :=h.2;rw[bj hw]at this;exact .inl this
  ·rename_i hw;have :=h.2;rw[bW hw]at this;exact .inl this
 ·exact⟨.inl h.1,h.2⟩
 ·exact h
 ·exact h
theorem mL {main:Bool}{J:Nat->Perm->ak->ao->Prop}(hJ:fY P main J){R:Perm}{g g':ak}{n:Nat}(hr:g.status= .running)(hs:∀w,stepG P main g w= .go g' w #[])
  (h:∀aN,bg R w aN->J n R g' aN):J (n+1) R g w:=
 hJ.step hr fun aN hk=>⟨g',aN,#[],R,⟨hs aN,tu.refl _ _ _,fun e he=>by simp at he,eK.refl _ _,rfl,id⟩,h aN hk⟩
variable {main:Bool}{J:Nat->Perm->ak->ao->Prop}{b:Frame}{a:Act}{k:List Item}{cs:List Frame}{ops:Array gK}{i:Nat}{rest:List Nat}{o:gK}
theorem AY (hJ:fY P main J)(ho:ops[i]?=some o)(hw:Region.wanted o (yielded ops a.tmps)=true)(hk:b.kind≠ .early)(H:dk P E bl σ ρ m w){ev:bS->ae}
  (dV:∀x∈o.op.operands,aQ ρ (ev x) (a.eval x)){v:ae}{m':Mem}(dC:dE P ev o m=some (v,m')){l:Nat}
  (hn:∀bq v' w',ρ.le bq->(∀b,b<m.next->bq b=ρ b)->dk P E bl σ bq m' w'->aQ bq v v'->J l ((ax bq m').or E) (G (b.at (a.put o.dst v') (.inRegion ops rest::k)) cs) w'):
  J (l+1) ((ax ρ m).or E) (G (b.at a (.inRegion ops (i::rest)::k)) cs) w:=by
 refine hJ.step rfl fun aN jJ=>?_
 have gi:=H.keeps jJ;have DN:=SC dC;obtain⟨nx,w',gR,⟨bq,hL,v',hv,hy⟩,hc,he⟩:=mI (aj _) (EU gi.jM (aj _) dV dC);obtain⟨evs,zh,eZ⟩:=he #[];have om:∀e∈listed P b.fn a o aN,nJ (ax ρ m) e:=fun e hx=>eZ e (by have :=mem_listed hx;rw[zh]at this;simpa using this)
 have hH:=gi.left hL DN hc;have Ae:=hn bq v' w' hL.le hL.old hH hv;have fp:∀g',stepG P main (G (b.at a (.inRegion ops (i::rest)::k)) cs) aN= .go g' w' (listed P b.fn a o aN)->
   Stepped P main ((ax ρ m).or E) (G (b.at a (.inRegion ops (i::rest)::k)) cs) aN ((ax bq m').or E) g' w' (listed P b.fn a o aN):=fun g' hs=>
  ⟨hs,hc.or,fun e hx=> .inl (om e hx).or,hL.within.or,by
   show m'.deaf=deafBehind m.deaf _
   rw[kz om,DN.2.1],fun _=>hH.low⟩
 rcases hy with rfl|⟨rfl,rfl,rfl⟩
 ·exact⟨_,w',_,_,fp _ (stepG_value ho hw hk gR),Ae⟩
 ·exact⟨_,w',_,_,fp _ (stepG_none ho hw hk gR),Ae⟩
theorem qG (hJ:fY P main J)(ho:ops[i]?=some o)(hw:Region.wanted o (yielded ops a.tmps)=false){R:Perm}{l:Nat}
  (hn:∀aN,bg R w aN->J l R (G (b.at (a.put o.dst undef) (.inRegion ops rest::k)) cs) aN):J (l+1) R (G (b.at a (.inRegion ops (i::rest)::k)) cs) w:=
 mL hJ rfl (fun w=>stepG_unwanted ho hw) hn
end
end Go.AM
namespace Go.AM
open Go Go.Conc
def jB (P:aC)(f:Nat)(e:Array ae->Sem ae):Prop:=
 ∃fn,P.funcs[f]?=some fn/\fn.body.isNone=true/\(fn.name== "runtime.NumGoroutine")=false/\Extern.findNext fn=none/\Extern.find fn=some e
structure qd (P:aC)(X:Ext):Prop where
 names:∀(f:Nat) (fn:Func),P.funcs[f]?=some fn->fn.body.isSome=true->(fn.name== "runtime.NumGoroutine")=false
 mixed:P.follows .mixedOrders=true
 disable:jB P X.disable fun _=>do mark .disable;pure Extern.Race.none_
 enable:jB P X.enable fun _=>do mark .enable;pure Extern.Race.none_
 acquire:jB P X.acquire (Extern.Race.marked .acquire)
 tJ:jB P X.tJ (Extern.Race.marked .releaseMerge)
 FB:jB P X.FB (Extern.Atomic.casT (.int .i32))
 Ks:jB P X.Ks (Extern.Atomic.update (Op.intArith .add) .i32 true)
section
variable {P:aC}{X:Ext}{ρ:dw}{m m':Mem}{w:ao}{N:Nat}{v:ae}
theorem rk {R:Perm}{f:Nat}{e:Array ae->Sem ae}(h:jB P f e){args:Array ae}{Q:Next->ao->Prop}(hq:dR P R N (e args) (fun v w=>Q (.value v) w) w):dR P R N (callFunc f args) Q w:=by
 obtain⟨fn,hf,hb,Jv,hn,he⟩:=h;unfold callFunc;rw[ar]
 show dR P R N _ Q w
 rw[hf];simp only[];rw[bW (by rw[Jv];simp),bj hb,ar];refine⟨trivial,?_⟩;simp only[hn,he]
 show dR P R N (e args>>=fun v=>pure (Next.value v)) Q w
 rw[ar];exact hq
theorem xH {R:Perm}{f:Nat}{fn:Func}(hf:P.funcs[f]?=some fn)(hb:fn.body.isSome=true)(Jv:(fn.name== "runtime.NumGoroutine")=false){args:Array ae}{Q:Next->ao->Prop}(hq:Q (.enter f args) w):dR P R N (callFunc f args) Q w:=by
 unfold callFunc;rw[ar]
 show dR P R N _ Q w
 rw[hf];simp only[];rw[bW (by rw[Jv];simp),bW (by cases hx:fn.body<;>simp_all)];exact hq
theorem fL.deaf(h:fL ρ m w)(d:Nat):fL ρ {m with deaf:=d} w:=⟨h.mo,h.cells,h.kN,h.thaw,h.maps,h.kX,h.sep,h.rB,h.vars⟩
theorem aaa {l:List ae}{x:ae}{l':List ae}(h:l=[x])(hr:bH (aQ ρ) l l'):∃x',l'=[x']/\aQ ρ x x':=by
 subst h
 match l',hr with
 | [x'],hr=>exact⟨x',rfl,hr.1⟩
theorem BD (hs:fL ρ m w){b o:Nat}{p:Pl}(dB:ρ b=some p){x x':ae}{m₂:Mem}(h:m.dP b o [x]=some m₂)(hx:aQ ρ x x'){md:Mode}{Q:Unit->ao->Prop}(hq:∀w',Left ρ m w ρ m₂ w'->Q () w'):
  dR P (ax ρ m) N (Go.store ⟨p.c,p.d+o,none⟩ x' md) Q w:=by
 have hso:=px (P:=P) (N:=N) hs dB h (qV:=[x']) ⟨hx,trivial⟩ (Q:=Q) fun w' hL _=>hq w' hL
 simp only[storeCells]at hso;rw[ar,iZ,Nat.add_zero]at hso;exact hso
theorem IG (hs:fL ρ m w){b o:Nat}{p:Pl}(dB:ρ b=some p){u:Int}(hl:m.dK b o 1=some [.int .i32 u]){Q:ae->ao->Prop}(hQ:Q (.int .i32 u) w):dR P (ax ρ m) N (Extern.Atomic.read (.int .i32) ⟨p.c,p.d+o,none⟩) Q w:=by
 obtain⟨z,z',g1,g2,g3,g4⟩:=hs.z8 dB hl (show 0<1 by omega);simp only[List.getElem?_cons_zero,ah]at g1;subst g1;obtain rfl:=(aF (by rfl)).1 g2;unfold Extern.Atomic.read;rw[ar];exact B8 g3 g4 hQ
theorem kA {b o:Nat}{x:ae}(hl:m.dK b o 1=some [x]):m.cell b o=some x:=by
 obtain⟨_,_,g⟩:=Mem.pG hl;obtain⟨z,g1,g2⟩:=g 0 ai;simp only[List.getElem?_cons_zero,ah]at g1;subst g1;exact g2
theorem MC (hs:fL ρ m w){b o:Nat}{p:Pl}(dB:ρ b=some p){x:ae}(hl:m.dK b o 1=some [x]){Q:Bool->ao->Prop}(hQ:Q (w.frozen? ⟨p.c,p.d+o,none⟩) w):
  dR P (ax ρ m) N (Extern.Atomic.touchesFrozen ⟨p.c,p.d+o,none⟩) Q w:=by
 obtain⟨_,_,e,n,fI,_⟩:=hs.cells b p dB (Mem.eE (kA hl)).1;unfold Extern.Atomic.touchesFrozen viewAt;rw[ar,ar];refine EV fI ?_;exact hQ
theorem ON (hs:fL ρ m w)(hX:qd P X){f:Nat}{args:List ae}{bJ:Array ae}(hr:bH (aQ ρ) args bJ.toList)(h:uj X f args m=some (v,m'))(h1:f≠X.disable)(h2:f≠X.enable):
  jg m m'/\∃e,jB P f e/\∀{Q:ae->ao->Prop},(∀w',Left ρ m w ρ m' w'->aQ ρ v v->Q v w')->dR P (ax ρ m) N (e bJ) Q w:=by
 unfold uj at h;rw[bW h1,bW h2]at h
 split at h
 ·rename_i hf;subst hf
  split at h
  ·rename_i b o;simp only[ah,au]at h;obtain⟨rfl,rfl⟩:=h;refine⟨jg.refl _,_,hX.acquire,fun hq=>?_⟩;obtain⟨x',hx,hxr⟩:=aaa rfl hr;obtain⟨p,hp,_,rfl⟩:=cP.1 hxr;have :bJ=#[.pointer (some ⟨p.c,p.d+o,none⟩)]:=by apply Array.ext';simpa using hx
   subst this;exact⟨trivial,hq _ (Left.refl hs) jO⟩
  ·cases h
 ·split at h
  ·rename_i hf;subst hf
   split at h
   ·rename_i b o;simp only[ah,au]at h;obtain⟨rfl,rfl⟩:=h;refine⟨jg.refl _,_,hX.tJ,fun hq=>?_⟩;obtain⟨x',hx,hxr⟩:=aaa rfl hr;obtain⟨p,hp,_,rfl⟩:=cP.1 hxr;have :bJ=#[.pointer (some ⟨p.c,p.d+o,none⟩)]:=by apply Array.ext';simpa using hx
    subst this;exact⟨trivial,hq _ (Left.refl hs) jO⟩
   ·cases h
  ·split at h
   ·rename_i hf;subst hf
    split at h
    ·rename_i b o x y
     match bJ,hr with
     |⟨[p',x',y']⟩,hr=>
      obtain⟨hp,hx,hy,_⟩:=hr;obtain⟨p,dB,_,rfl⟩:=cP.1 hp;obtain rfl:=(aF (by rfl)).1 hx;obtain rfl:=(aF (by rfl)).1 hy
      split at h
      ·rename_i u hl;have DN:w.frozen? ⟨p.c,p.d+o,none⟩=false->∀{Q:ae->ao->Prop},dR P (ax ρ m) N (if(u==x)=true then(do Go.store ⟨p.c,p.d+o,none⟩ (.int .i32 y) .atomic;pure (ae.bool (u==x)))else pure (ae.bool (u==x))) Q w->
         dR P (ax ρ m) N (Extern.Atomic.casT (.int .i32) #[.pointer (some ⟨p.c,p.d+o,none⟩),.int .i32 x,.int .i32 y]) Q w:=by
        intro hz Q hQ;refine(ar (asAddr (.pointer (some ⟨p.c,p.d+o,none⟩))) _ _ _).2 ?_;refine(ar (Extern.Atomic.touchesFrozen ⟨p.c,p.d+o,none⟩) _ _ _).2 ?_;refine MC hs dB hl ?_;rw[hz];refine(ar (Extern.Atomic.read (.int .i32) ⟨p.c,p.d+o,none⟩) _ _ _).2 ?_;refine IG hs dB hl ?_
        show dR P (ax ρ m) N (if(u==x)=true then(do Go.store ⟨p.c,p.d+o,none⟩ (.int .i32 y) .atomic;pure (ae.bool (u==x)))else pure (ae.bool (u==x))) Q w
        by_cases hux:(u==x)=true
        ·rw[bj hux]at hQ⊢;exact hQ
        ·rw[bW hux]at hQ⊢;exact hQ
       split at h
       ·rename_i hux;obtain⟨m2,yC,he⟩:=az.1 h;simp only[au]at he;obtain⟨rfl,rfl⟩:=he;refine⟨jg.dP yC,_,hX.FB,fun hq=>?_⟩;have hz:w.frozen? ⟨p.c,p.d+o,none⟩=false:=by
         obtain⟨cs,_,_,Jw,_⟩:=Mem.qi yC;exact hs.thaw b p o dB (iM hs dB (kA hl)) (Mem.eE (kA hl)).1 (Mem.ku Jw)
        refine DN hz ?_;have Xo:(u==x)=true:=by simpa using hux
        rw[bj Xo,Xo,ar];exact BD hs dB yC (cj rfl) fun w' hL=>hq w' hL (cj rfl)
       ·rename_i hux
        split at h
        ·rename_i ny;simp only[ah,au]at h;obtain⟨rfl,rfl⟩:=h;refine⟨jg.refl _,_,hX.FB,fun hq=>?_⟩;have hz:w.frozen? ⟨p.c,p.d+o,none⟩=false:=hs.thaw b p o dB (iM hs dB (kA hl)) (Mem.eE (kA hl)).1 ny;refine DN hz ?_;have Xo:(u==x)=false:=by simpa using hux
         rw[Xo];simp only[cF,if_false];exact hq _ (Left.refl hs) (cj rfl)
        ·cases h
      ·cases h
    ·cases h
   ·split at h
    ·rename_i hf;subst hf
     split at h
     ·rename_i b o y
      match bJ,hr with
      |⟨[p',y']⟩,hr=>
       obtain⟨hp,hy,_⟩:=hr;obtain⟨p,dB,_,rfl⟩:=cP.1 hp;obtain rfl:=(aF (by rfl)).1 hy
       split at h
       ·rename_i u hl;obtain⟨m2,yC,he⟩:=az.1 h;simp only[au]at he;obtain⟨rfl,rfl⟩:=he;refine⟨jg.dP yC,_,hX.Ks,fun hq=>?_⟩;refine(ar (asAddr (.pointer (some ⟨p.c,p.d+o,none⟩))) _ _ _).2 ?_;refine(ar (Extern.Atomic.read (.int .i32) ⟨p.c,p.d+o,none⟩) _ _ _).2 ?_;refine IG hs dB hl ?_
        show dR P (ax ρ m) N (do Go.store ⟨p.c,p.d+o,none⟩ (.int .i32 (bU.i32.wrap (u+y))) .atomic;pure (ae.int .i32 (bU.i32.wrap (u+y)))) _ w
        rw[ar];exact BD hs dB yC (cj rfl) fun w' hL=>hq w' hL (cj rfl)
       ·cases h
     ·cases h
    ·cases h
end
end Go.AM
