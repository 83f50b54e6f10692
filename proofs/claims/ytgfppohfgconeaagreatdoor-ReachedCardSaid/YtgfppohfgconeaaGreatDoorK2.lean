/-
  What the claim stands on, part 2.
-/
import Derived.Test.YtgfppohfgconeaaGreatDoorK1
import Derived.Orders
import Derived.Conc.DeferLaws
import Derived.Conc.Own5
import Derived.Conc.QuitsD
set_option linter.unusedVariables false
set_option linter.unusedSimpArgs false
open Go renaming Value → ae, Goroutine → ak, World → au, Program → aD, TypeId → aM, Operand → bX, IntKind → cf, Oper → gU
open Bool renaming and_eq_true → ag, false_eq_true → bU
open Option.some renaming injEq → ah
open Nat renaming le_refl → ai, lt_of_lt_of_le → aW, le_trans → cp
open Prod.mk renaming injEq → ay
open List renaming all_eq_true → aB
open Option renaming map_eq_some_iff → aC, bind_some → a9, bind_eq_some_iff → bD, map_some → cN, isSome_iff_exists → iA
namespace Go.AM
open Go
section
variable {P:aD}{ρ:dh}{m:Mem}{w:au}{N:Nat}
theorem pQ {w:au}{c:Nat}{o o':Obj}(ho:w.heap[c]?=some o')(h1:∀C t f,o'≠ .cells C t f)(h2:∀C t f,o≠ .cells C t f)(b x:Nat):
  ({w with heap:=w.heap.setIfInBounds c o}:au).cell? ⟨b,x,none⟩=w.cell? ⟨b,x,none⟩/\({w with heap:=w.heap.setIfInBounds c o}:au).shape? b=w.shape? b/\({w with heap:=w.heap.setIfInBounds c o}:au).frozen? ⟨b,x,none⟩=w.frozen? ⟨b,x,none⟩:=by
 have cC:c<w.heap.size:=by
  rcases Nat.lt_or_ge c w.heap.size with h|h
  ·exact h
  ·rw[Array.getElem?_eq_none h]at ho;cases ho
 unfold au.cell? au.shape? au.frozen?;simp only[Array.getElem?_setIfInBounds]
 by_cases hb:c=b
 ·subst hb;simp only[if_true,bC cC,ho];cases o with
  |cells C t f=>exact absurd rfl (h2 C t f)
  |_=>cases o' with
   |cells C t f=>exact absurd rfl (h1 C t f)
   |_=>exact⟨by first |rfl|trivial,by first |rfl|trivial,by first |rfl|trivial⟩
 ·simp only[bS hb];refine⟨?_,?_,?_⟩<;>first |rfl|trivial
theorem fH.setObj(h:fH ρ m w){b:Nat}{p:Pl}(hp:ρ b=some p){k:dJ}(hk:(m.blk b).kind=2\/(m.blk b).kind=3)(OV:k.kind=(m.blk b).kind){o o':Obj}(ho:w.heap[p.c]?=some o')(h1:∀C t f,o'≠ .cells C t f)(h2:∀C t f,o≠ .cells C t f)
  (U0:k.kind=2->∃jD,o= .map jD k.clock/\bB (vz ρ) k.es.toList jD.toList)(JJ:k.kind=3->p.d=0/\o= .stringIter k.str k.pos):
  Left ρ m w ρ (m.a8 b k) {w with heap:=w.heap.setIfInBounds p.c o}:=by
 have fj:∀b',(m.a8 b k).blk b'=if b=b' then{k with aZ:=m.tick}else m.blk b':=fun b'=>Mem.dE ..
 have iM:∀b',((m.a8 b k).blk b').kind=(m.blk b').kind:=fun b'=>by rw[fj];split<;>simp_all
 have cC:p.c<w.heap.size:=h.rG b p hp;have lF:∀b' x v,(m.a8 b k).cell b' x=some v->b≠b'/\m.cell b' x=some v:=by
  intro b' x v hc;have hkc:=(Mem.eB hc).1;rw[iM]at hkc;have dH:b≠b':=by rintro rfl;omega
  refine⟨dH,?_⟩;unfold Mem.cell at hc⊢;rw[fj,bS dH]at hc;exact hc
 have UX:∀b' x,(m.a8 b k).nK b' x->m.nK b' x:=by
  rintro b' x ⟨g1,g2,g3⟩;rw[iM]at g1;have dH:b≠b':=by rintro rfl;omega
  rw[fj,bS dH]at g3;exact⟨g1,g2,g3⟩
 have UW:∀b' x,(m.a8 b k).okW b' x->m.okW b' x:=fun b' x hx=>⟨UX _ _ hx.1,hx.2⟩
 have Jy:∀b' p',b≠b'->ρ b'=some p'->(m.blk b').kind≠0->p.c≠p'.c:=fun b' p' dH dy gm uo=>by
  have :=(h.sep b b' p p' dH hp dy aj gm uo).1;omega
 refine⟨ρ.le_refl,⟨h.mz,fun b' p' dy gm=>?_,fun b' p' x v dy hc=>?_,fun b' p' x dy hx gm nC=>?_,fun b' p' dy gm qe=>?_,fun b' p' dy gm qe=>?_,fun yn ym nJ oH dH pN AL k₁ k₂ hc=>?_,fun b' p' dy=>?_,fun b' p' dy gm wY=>?_⟩,⟨?_,?_,?_⟩,fun _ _=>rfl⟩
 ·rw[iM]at gm;have dH:b≠b':=by rintro rfl;omega
  rw[fj,bS dH];obtain⟨g1,g2,e,n,g3,g4⟩:=h.cells b' p' dy gm;exact⟨g1,g2,e,n,by rw[(pQ ho h1 h2 p'.c 0).2.1];exact g3,g4⟩
 ·obtain⟨_,FI⟩:=lF _ _ _ hc;obtain⟨v',g1,g2⟩:=h.lj b' p' x v dy FI;exact⟨v',by rw[(pQ ho h1 h2 _ _).1];exact g1,g2⟩
 ·rw[(pQ ho h1 h2 _ _).2.2];rw[iM]at gm;exact h.thaw b' p' x dy hx gm nC
 ·rw[iM]at gm
  by_cases hb:b=b'
  ·subst hb;obtain rfl:p=p':=by rw[hp]at dy;exact Option.some.inj dy
   obtain⟨jD,rfl,g⟩:=U0 aj;rw[fj,bC rfl];exact⟨jD,by simp[cC],g⟩
  ·rw[fj,bS hb];obtain⟨jD,g1,g2⟩:=h.maps b' p' dy gm qe;exact⟨jD,by rw[Array.getElem?_setIfInBounds_ne (Jy b' p' hb dy aj)];exact g1,g2⟩
 ·rw[iM]at gm
  by_cases hb:b=b'
  ·subst hb;obtain rfl:p=p':=by rw[hp]at dy;exact Option.some.inj dy
   obtain⟨g,rfl⟩:=JJ aj;rw[fj,bC rfl];exact⟨g,by simp[cC]⟩
  ·rw[fj,bS hb];obtain⟨g1,g2⟩:=h.lD b' p' dy gm qe;exact⟨g1,by rw[Array.getElem?_setIfInBounds_ne (Jy b' p' hb dy aj)];exact g2⟩
 ·rw[iM]at k₁ k₂⊢;rw[iM];exact h.sep yn ym nJ oH dH pN AL k₁ k₂ hc
 ·simpa using h.rG b' p' dy
 ·rw[iM]at gm;have dH:b≠b':=by rintro rfl;omega
  rw[fj,bS dH]at wY;exact h.vars b' p' dy gm wY
 ·rintro c x ⟨b',p',g1,g2,g3,g4,g5⟩;exact .inl ⟨b',p',g1,g2,g3,g4,UX _ _ g5⟩
 ·rintro c x ⟨b',p',g1,g2,g3,g4,g5⟩;exact .inl ⟨b',p',g1,g2,g3,g4,UW _ _ g5⟩
 ·rintro c ⟨b',p',g1,g2,g3,g4⟩;exact .inl ⟨b',p',g1,g2,by rwa[iM]at g3,g4⟩
theorem pE {R:Perm}{c:Nat}{o o':Obj}(ho:w.heap[c]?=some o')(h1:∀C t f,o'≠ .cells C t f)(h2:∀C t f,o≠ .cells C t f)(h3:o.isChan=false)(hr:R.ob c){Q:Unit->au->Prop}(hq:Q () {w with heap:=w.heap.setIfInBounds c o}):dA P R N (setObj c o) Q w:=
 ⟨⟨o',ho,h1⟩,h2,h3,hr,hq⟩
theorem pG {R:Perm}{c:Nat}{o:Obj}(ho:w.heap[c]?=some o)(h1:∀C t f,o≠ .cells C t f)(h3:o.isChan=false)(hr:R.ob c){Q:Obj->au->Prop}(hq:Q o w):dA P R N (getObj c) Q w:=
 ⟨o,ho,h1,h3,hr,hq⟩
theorem LV {R:Perm}{o:Obj}{Q:Nat->au->Prop}(hq:Q w.heap.size {w with heap:=w.heap.push o}):dA P R N (newObj o) Q w:=hq
theorem Kc (h:fH ρ m w){lB:Array aM}{ty:aM}{d d' s s' v:ae}{m':Mem}(hd:aQ ρ d d')(hs:aQ ρ s s')(ha:yi P lB d s m=some (v,m'))
  {Q:ae->au->Prop}(hq:∀v' w' bu,Left ρ m w bu m' w'->aQ bu v v'->Q v' w'):dA P (az ρ m) N (Builtin.copy_ lB ty #[d',s']) Q w:=by
 unfold yi at ha
 split at ha
 ·rename_i e base dl cap eD;obtain⟨st,Ms,eD⟩:=bD.1 eD
  split at ha
  ·rename_i size sl ON hlen
   split at ha
   ·rename_i sb sn sc;obtain⟨cells,zq,ha⟩:=bD.1 ha;obtain⟨uJ,gK,rfl,mM⟩:=qM.of hd;unfold Builtin.copy_;simp only[Ms,List.getElem?_toArray,List.getElem?_cons_zero,List.getElem?_cons_succ];rw[ar];refine aG eD ?_;simp only[];rw[ar];refine Cu hs hlen ?_;rw[ar];refine dD ON ?_;rw[ar];refine oR h hs zq fun xD xU=>?_
    split at ha
    ·rename_i b o;obtain⟨pl,dm,_,rfl,_⟩:=mM;obtain⟨m2,yF,Vm⟩:=aC.1 ha;simp only[ay]at Vm;obtain⟨rfl,rfl⟩:=Vm;simp only[];rw[ar];exact pz h dm yF xU fun w' hL _=>hq _ _ _ hL (bO rfl)
    ·obtain⟨rfl,_⟩:=mM;simp only[ah,ay]at ha;obtain⟨rfl,rfl⟩:=ha;exact hq _ _ _ (Left.refl h) (bO rfl)
    ·cases ha
   ·cases ha
  ·cases ha
 ·cases ha
theorem HO (h:fH ρ m w){lB:Array aM}{ty:aM}{x x' v:ae}{m':Mem}(hx:aQ ρ x x')(ha:mX P lB x m=some (v,m'))
  {Q:ae->au->Prop}(hq:∀v' w' bu,Left ρ m w bu m' w'->aQ bu v v'->Q v' w'):dA P (az ρ m) N (Builtin.clear_ lB ty #[x']) Q w:=by
 unfold mX at ha
 split at ha
 ·rename_i e base n cap eD;obtain⟨st,Ms,eD⟩:=bD.1 eD;obtain⟨uJ,gK,rfl,mM⟩:=qM.of hx;unfold Builtin.clear_;simp only[Ms,List.getElem?_toArray,List.getElem?_cons_zero];rw[ar];refine aG eD ?_
  split at ha
  ·obtain⟨rfl,_⟩:=mM;simp only[ah,ay]at ha;obtain⟨rfl,rfl⟩:=ha;exact hq _ _ _ (Left.refl h) j1
  ·rename_i b o;obtain⟨pl,dm,_,rfl,_⟩:=mM
   split at ha
   ·rename_i hn;subst hn;simp only[ah,ay]at ha;obtain⟨rfl,rfl⟩:=ha;exact hq _ _ _ (Left.refl h) j1
   ·rename_i hn;obtain⟨z,hz,ha⟩:=bD.1 ha;obtain⟨m2,yF,Vm⟩:=aC.1 ha;simp only[ay]at Vm;obtain⟨rfl,rfl⟩:=Vm;obtain⟨k,rfl⟩:∃k,n=k+1:=⟨n-1,aj⟩
    show dA P (az ρ m) N (do storeCells ⟨pl.c,pl.d+o,none⟩ (Builtin.zeroCells (<-zeroValue e).cells (k+1)).toList;pure (ae.tuple #[])) Q w
    rw[ar];refine eH hz ?_;rw[ar];exact pz h dm yF (iV (AB (jP hz).1 _)) fun w' hL _=>hq _ _ _ hL j1
  ·cases ha
 ·cases ha
theorem Ci:∀{l:List ae}{bs:List UInt8},l.mapM (m:=Option) (fun v=>match v with | .int .u8 n=>some (UInt8.ofNat n.toNat)|_=>none)=some bs->l.all cR=true
 | [],_,_=>rfl
 |v::l,bs,h=>by
  rw[List.mapM_cons]at h;simp only[Option.bind_eq_bind,bD,Option.pure_def,ah]at h;obtain⟨x,hx,ys,hys,rfl⟩:=h;rw[List.all_cons,Ci hys,Bool.and_true]
  split at hx
  ·rfl
  ·cases hx
theorem Dt {R:Perm}{f:ae->ByteArray->Sem (ForInStep ByteArray)}(hf:∀n s,f (.int .u8 n) s=pure (.yield (s.push (UInt8.ofNat n.toNat)))){Q:ByteArray->au->Prop}:
  ∀(l:List ae) (s:ByteArray) (bs:List UInt8),l.mapM (m:=Option) (fun v=>match v with | .int .u8 n=>some (UInt8.ofNat n.toNat)|_=>none)=some bs->Q ⟨s.data++bs.toArray⟩ w->dA P R N (forIn l s f) Q w
 | [],s,bs,h,hq=>by
  simp at h;subst h
  show Q s w
  simpa using hq
 |v::l,s,bs,h,hq=>by
  rw[List.mapM_cons]at h;simp only[Option.bind_eq_bind,bD,Option.pure_def,ah]at h;obtain⟨x,hx,ys,hys,rfl⟩:=h
  split at hx
  ·rename_i n;simp only[ah]at hx;subst hx;rw[List.forIn_cons,hf,pure_bind];refine Dt hf l (s.push (UInt8.ofNat n.toNat)) ys hys ?_;have e:(s.push (UInt8.ofNat n.toNat)).data++ys.toArray=s.data++(UInt8.ofNat n.toNat::ys).toArray:=by
    show s.data.push _++ys.toArray=_
    simp
   rw[e];exact hq
  ·cases hx
theorem Fj {R:Perm}{r:Nat}{x:Option (aM×Nat)}(h:w.shape? r=x){Q:Option (aM×Nat)->au->Prop}(hq:Q x w):dA P R N (shape r) Q w:=by
 show Q (w.shape? r) w
 rw[h];exact hq
theorem Dg (h:fH ρ m w)(hN:N<=w.heap.size){s d:aM}{x x' v:ae}{m':Mem}(hx:aQ ρ x x')(ha:fN P s d x m=some (v,m'))
  {Q:ae->au->Prop}(hq:∀v' w' bu,Left ρ m w bu m' w'->aQ bu v v'->Q v' w'):dA P (az ρ m) N (convert s d x') Q w:=by
 unfold fN at ha
 split at ha
 ·rename_i t b o hs hd;obtain⟨pl,dm,_,rfl⟩:=cL.1 hx;simp only[]at ha
  split at ha
  ·rename_i k hk
   split at ha
   ·rename_i hc;simp only[ag,beq_iff_eq,jQ]at hc;simp only[ah,ay]at ha;obtain⟨rfl,rfl⟩:=ha;obtain⟨_,RL,e,n,fG,hn⟩:=h.cells b pl dm hc.1;unfold convert;rw[ar];refine aG hs ?_;rw[ar];refine aG hd ?_
    show dA P (az ρ m) N (Conv.unsafePointer s d (.pointer (some ⟨pl.c,pl.d+o,none⟩))) Q w
    unfold Conv.unsafePointer;rw[ar];refine aG hs ?_;rw[ar];refine aG hd ?_;simp only[];rw[ar];have Jw:∀{Q:Addr->au->Prop},Q ⟨pl.c,pl.d+o,none⟩ w->dA P (az ρ m) N (Conv.seenAt ⟨pl.c,pl.d+o,none⟩) Q w:=by
     intro Q hQ;unfold Conv.seenAt viewAt;simp only[bind_assoc];rw[ar]
     show dA P (az ρ m) N _ Q w
     rw[fG];exact hQ
    refine Jw ?_;unfold cellsIn;simp only[bind_assoc];rw[ar]
    show dA P (az ρ m) N _ Q w
    rw[fG];simp only[pure_bind];rw[ar];refine dD hk ?_;rw[bS (by simp;omega)];exact hq _ _ _ (Left.refl h) hx
   ·cases ha
  ·cases ha
 ·rename_i e str hs hd;obtain rfl:=(aF (by rfl)).1 hx
  split at ha
  ·rename_i he
   split at ha
   ·cases ha
   ·rename_i iW;simp only[ah,ay]at ha;obtain⟨rfl,rfl⟩:=ha;unfold convert;rw[ar];refine aG hs ?_;rw[ar];refine aG hd ?_;simp only[];rw[ar];refine aG he ?_;simp only[];unfold Conv.stringToBytes;rw[ar];refine tU aj fun nc hn1 hn2=>?_
    rw[ar];refine pF ?_;generalize hC:(str.data.map fun b=>(ae.int .u8 b.toNat))++Array.replicate (nc-str.size) (ae.int .u8 0)=C;rw[ar];unfold markStringish;rw[ar];have fG:({w with drawn:=w.drawn+1,heap:=w.heap.push (.cells C e)}:au).shape? w.heap.size=some (e,C.size):=by
     unfold au.shape?;simp
    refine Fj fG ?_;refine⟨hN,?_⟩;have hf:({w with drawn:=w.drawn+1,heap:=w.heap.push (.cells C e)}:au).freeze ⟨w.heap.size,C.size,none⟩ 1={w with drawn:=w.drawn+1,heap:=w.heap.push (.cells C e (C.size,C.size+1))}:=by
     unfold au.freeze;rw[bS aj];have :(w.heap.push (.cells C e)).modify w.heap.size (fun
      | .cells c elem (lo,hi)=> .cells c elem (if lo==hi then(C.size,C.size+1)else(min lo C.size,max hi (C.size+1)))
      |o=>o)=w.heap.push (.cells C e (C.size,C.size+1)):=by
      apply Array.ext_getElem?;intro i;rw[Array.getElem?_modify]
      by_cases hi:w.heap.size=i
      ·subst hi;simp
      ·rw[bS hi];rcases Nat.lt_or_ge i w.heap.size with g|g
       ·rw[Array.getElem?_push_lt g,Array.getElem?_push_lt g]
       ·rw[Array.getElem?_eq_none (by simp;omega),Array.getElem?_eq_none (by simp;omega)]
     exact congrArg (fun hp=>({w with drawn:=w.drawn+1,heap:=hp}:au)) this
    show dA P (az ρ m) N (pure (ae.slice (some ⟨w.heap.size,0,none⟩) str.size nc)) Q _
    rw[hf];have hn:=rB h;have hCs:C.size=nc:=by rw[<-hC];simp;show str.size+(nc-str.size)=nc;omega
    have kz:(m.alloc {kind:=1,sz:=1,cs:=str.data.toList.map fun b=>some (.int .u8 b.toNat)}).blk m.next={kind:=1,sz:=1,cs:=str.data.toList.map fun b=>some (.int .u8 b.toNat),aZ:=m.tick}:=by rw[Mem.bY,bC rfl]
    have hL:Left ρ m w (ρ.put m.next ⟨w.heap.size,0,C.size,1⟩) (m.alloc {kind:=1,sz:=1,cs:=str.data.toList.map fun b=>some (.int .u8 b.toNat)}) {w with drawn:=w.drawn+1,heap:=w.heap.push (.cells C e (C.size,C.size+1))}:=by
     refine⟨dh.uf hn _,(h.bump _).lay hn de (o:= .cells C e (C.size,C.size+1)) rfl rfl (fun _=>?_) (fun hk=>by rw[kz]at hk;simp at hk) (fun hk=>by rw[kz]at hk;simp at hk),
      (mB (lh h _) rfl rfl rfl rfl _).trans (vQ hn (ai _)),A1⟩
     rw[kz];refine⟨rfl,rfl,?_,C,e,(C.size,C.size+1),rfl,ai _,fun x hx fO=>by have h1:x<C.size:=hx;have h2:C.size<=x:=fO.1;omega,fun i v hi=>?_⟩
     ·simp only[List.length_map,Array.length_toList];show str.size<=C.size;omega
     ·rw[List.getElem?_map,aC]at hi;obtain⟨u,hu,hx⟩:=hi;obtain rfl:=Option.some.inj hx;refine⟨_,?_,bO rfl⟩;rw[<-hC];have cC:i<str.data.size:=by
       rcases Nat.lt_or_ge i str.data.size with g|g
       ·exact g
       ·rw[List.getElem?_eq_none (by simpa using g)]at hu;cases hu
      rw[Array.getElem?_append_left (by simpa using cC)];simp only[Array.getElem?_map,aC];exact⟨u,by simpa using hu,rfl⟩
    refine hq _ _ _ hL (bV.2 ⟨_,nc,dh.kH ..,rfl,rfl,?_⟩);rw[bC rfl];refine⟨hn1,?_⟩
    show 0+nc*1<=C.size
    omega
  ·cases ha
 ·rename_i e a len cap hs hd
  split at ha
  ·rename_i he;obtain rfl:=(aF (by rfl)).1 hx;simp only[ah,ay]at ha;obtain⟨rfl,rfl⟩:=ha;unfold convert;rw[ar];refine aG hs ?_;rw[ar];refine aG hd ?_;simp only[];rw[ar];refine aG he ?_;exact hq _ _ _ (Left.refl h) (bO rfl)
  ·rename_i b o he;obtain⟨l,hl,ha⟩:=bD.1 ha;obtain⟨bs,QN,ha⟩:=aC.1 ha;simp only[ay]at ha;obtain⟨rfl,rfl⟩:=ha;obtain⟨pl,gK,dm,_,rfl,_⟩:=bV.1 hx;unfold convert;rw[ar];refine aG hs ?_;rw[ar];refine aG hd ?_;simp only[];rw[ar];refine aG he ?_;simp only[];unfold Conv.bytesToString;simp only[];rw[ar];refine h.qS dm hl fun l' AR=>?_
   obtain rfl:=qq (Ci QN) AR;rw[ar];simp only[List.forIn_toArray];exact Dt (fun _ _=>rfl) l' ByteArray.empty bs QN (hq _ _ _ (Left.refl h) ((aF (by rfl)).2 de))
  ·cases ha
 ·cases ha
theorem bytes_beq {a b:ByteArray}:(a==b)=true↔a=b:=by
 show(a.data==b.data)=true↔a=b
 rw[beq_iff_eq];exact⟨ByteArray.ext,fun h=>by rw[h]⟩
theorem tg {R:Perm}{b:Bool}{n:Nat}{kt:aM}{s:ByteArray}(hk:P.underlying kt=some .string){Q:Unit->au->Prop}(hq:Q () w):dA P R N (Instr.checkKey b (n+1) kt (.string s)) Q w:=by
 unfold Instr.checkKey;rw[ar];refine aG hk ?_;exact hq
theorem An {s:ByteArray}:∀{es jD:List MapEntry} (i:Nat),bB (vz ρ) es jD->strKeys es=true->
  ∃r,Instr.findNow .string (.string s) jD i=some r/\(match kX s es i with
   |some (j,v)=>∃v',r=some (j,v')/\aQ ρ v v'
   |none=>r=none)
 | [],[],i,_,_=>⟨none,rfl,rfl⟩
 | [],_::_,_,h,_=>h.elim
 |_::_,[],_,h,_=>h.elim
 |e::es,e'::jD,i,h,hs=>by
  obtain⟨⟨hk,hv,_⟩,ht⟩:=h;simp only[strKeys,ag]at hs;obtain⟨UP,hs2⟩:=hs
  split at UP
  ·rename_i str hek;rw[hek]at hk;have gm:=(aF (by rfl)).1 hk;unfold Instr.findNow kX;rw[gm,hek];simp only[Instr.sameNow]
   by_cases hb:(s==str)=true
   ·rw[hb];exact⟨_,rfl,_,rfl,hv⟩
   ·have iB:(s==str)=false:=by simpa using hb
    rw[iB];simp only[bU,if_false];exact An (i+1) ht hs2
  ·cases UP
theorem Ao {R:Perm}{kt:aM}{s:ByteArray}(hk:P.underlying kt=some .string){es jD:List MapEntry}(he:bB (vz ρ) es jD)(hs:strKeys es=true){Q:Option (Nat×ae)->au->Prop}
  (hq:∀r,(match kX s es 0 with
   |some (j,v)=>∃v',r=some (j,v')/\aQ ρ v v'
   |none=>r=none)->Q r w):dA P R N (Instr.findKey kt (.string s) jD) Q w:=by
 unfold Instr.findKey;rw[ar];refine aG hk ?_;obtain⟨r,h1,h2⟩:=An (s:=s) 0 he hs;rw[h1];exact hq _ h2
theorem lC {α:Type}{R:Perm}:∀{s:Sem α}{a:α},s.aH P=some a->∀{Q:α->au->Prop},Q a w->dA P R N s Q w
 | .pure a,b,h,Q,hq=>by
  simp only[Sem.aH,ah]at h;subst h;exact hq
 | .program k,b,h,Q,hq=>lC (s:=k P) h hq
 | .load ..,_,h,_,_=>by simp[Sem.aH]at h
 | .store ..,_,h,_,_=>by simp[Sem.aH]at h
 | .new ..,_,h,_,_=>by simp[Sem.aH]at h
 | .shape ..,_,h,_,_=>by simp[Sem.aH]at h
 | .freeze ..,_,h,_,_=>by simp[Sem.aH]at h
 | .frozen ..,_,h,_,_=>by simp[Sem.aH]at h
 | .getObj ..,_,h,_,_=>by simp[Sem.aH]at h
 | .setObj ..,_,h,_,_=>by simp[Sem.aH]at h
 | .choose ..,_,h,_,_=>by simp[Sem.aH]at h
 | .sys ..,_,h,_,_=>by simp[Sem.aH]at h
 | .mark ..,_,h,_,_=>by simp[Sem.aH]at h
 | .halt ..,_,h,_,_=>by simp[Sem.aH]at h
def aiX (ρ:dh)(r r':Option (Nat×ae)):Prop:=match r with
 |some (j,v)=>∃v',r'=some (j,v')/\aQ ρ v v'
 |none=>r'=none
theorem uy {R:Perm}{kt:aM}{k:ae}:∀{es jD:List MapEntry}{i:Nat}{r:Option (Nat×ae)},bB (vz ρ) es jD->Ap P kt k es i=some r->∀{Q:Option (Nat×ae)->au->Prop},
  (∀r',aiX ρ r r'->Q r' w)->dA P R N (Instr.findAsking kt k jD i) Q w
 | [],[],i,r,_,h,Q,hq=>by cases h;exact hq _ rfl
 | [],_::_,_,_,h,_,_,_=>h.elim
 |_::_,[],_,_,h,_,_,_=>h.elim
 |e::es,e'::jD,i,r,h,hf,Q,hq=>by
  obtain⟨⟨hk,hv,_⟩,ht⟩:=h;unfold Ap at hf
  split at hf
  ·rename_i hp;have hke:=px hp hk;unfold Instr.findAsking;rw[ar,hke]
   split at hf
   ·rename_i he;cases hf;exact lC he (hq _ ⟨_,rfl,hv⟩)
   ·rename_i he;exact lC he (uy ht hf hq)
   ·cases hf
  ·cases hf
theorem mI {kt:aM}{b:Nat}{k:ae}{r:Option (Nat×ae)}(h:y8 P kt b k m=some r):(m.blk b).kind=2/\m.bg b=true/\plain k=true/\(∃d,P.underlying kt=some d)/\(∀e,(Instr.checkKey e 10000 kt k).aH P=some ())/\Ap P kt k (m.blk b).es.toList 0=some r:=by
 unfold y8 at h
 split at h
 ·rename_i hc;simp only[ag,beq_iff_eq]at hc;obtain⟨⟨⟨⟨⟨h1,h2⟩,h3⟩,h4⟩,h5⟩,h6⟩:=hc;refine⟨h1,h2,h3,iA.1 h4,fun e=>?_,h⟩;obtain⟨u,hu⟩:=iA.1 h5;obtain⟨u',QI⟩:=iA.1 h6;cases e
  ·exact QI
  ·exact hu
 ·cases h
theorem JY {R:Perm}{kt:aM}{cs:Array ae}{d:TypeDesc}(hk:P.underlying kt=some d){es jD:List MapEntry}{r:Option (Nat×ae)}(he:bB (vz ρ) es jD)(hf:Ap P kt (.agg cs) es 0=some r){Q:Option (Nat×ae)->au->Prop}
  (hq:∀r',aiX ρ r r'->Q r' w):dA P R N (Instr.findKey kt (.agg cs) jD) Q w:=by
 unfold Instr.findKey;rw[ar];refine aG hk ?_;cases jD with
 |nil=>
  cases es with
  |nil=>cases hf;exact hq _ rfl
  |cons e es=>exact he.elim
 |cons e' jD=>
  have :Instr.findNow d (.agg cs) (e'::jD) 0=none:=by
   unfold Instr.findNow;cases d<;>rfl
  rw[this];exact uy he hf hq
theorem yJ {t:aM}{z:ae}(hz:gL P t=some z):aQ ρ z z:=by
 have :=jP hz;refine bO ?_;cases z with
 |agg cs=>exact this.1
 |tuple cs=>exact absurd this.1 (by simp[ae.cells,cR])
 |_=>simpa[plain,ae.cells]using this.1
theorem Es (h:fH ρ m w){t kt et:aM}{b:Nat}{x' k' v:ae}{cs:Array ae}{ok:Bool}(ht:P.underlying t=some (.map kt et))(hx:aQ ρ (.map (some b)) x')(hk:aQ ρ (.agg cs) k')(ha:sA P kt et b (.agg cs) ok m=some v)
  {Q:ae->au->Prop}(hq:∀v',aQ ρ v v'->Q v' w):dA P (az ρ m) N (Instr.lookup t x' k' ok) Q w:=by
 unfold sA at ha;have main:∀{z r},gL P et=some z->y8 P kt b (.agg cs) m=some r->(∀u u' bb,(r=none->u=z/\bb=false)->(∀j v,r=some (j,v)->u=v/\bb=true)->aQ ρ u u'->Q (if ok then ae.tuple #[u',.bool bb]else u') w)->dA P (az ρ m) N (Instr.lookup t x' k' ok) Q w:=by
  intro z r hz hr pP;obtain⟨h1,h2,h3,⟨d,h4⟩,h5,h6⟩:=mI hr;obtain rfl:=px h3 hk;obtain⟨p,hp,rfl⟩:=gV.1 hx;obtain⟨jD,g1,g2⟩:=h.maps b p hp h1 h2;unfold Instr.lookup;rw[ar];refine aG ht ?_;simp only[bind_assoc];rw[ar];refine pG (R:=az ρ m) g1 (by intro _ _ _ h;cases h) rfl ⟨b,p,hp,rfl,.inl h1,h2⟩ ?_;simp only[pure_bind];rw[ar];refine lC (h5 _) ?_;rw[ar];refine JY h4 g2 h6 fun r' wX=>?_
  cases r with
  |some jv=>
   obtain⟨j,u⟩:=jv;obtain⟨u',rfl,hu⟩:=wX;exact pP u u' true lQ (fun j v e=>by cases e;exact⟨rfl,rfl⟩) hu
  |none=>
   have wX:r'=none:=wX;subst wX;simp only[bind_assoc];rw[ar];refine eH hz ?_;exact pP z z false (fun _=>⟨rfl,rfl⟩) (fun j v e=>by cases e) (yJ hz)
 split at ha
 ·rename_i z j u hz hr;refine main hz hr fun u1 u' bb _ h2 hu=>hq _ ?_
  obtain⟨rfl,rfl⟩:=h2 _ _ rfl;cases ha;cases ok with
  |false=>exact hu
  |true=>exact dU.2 ⟨_,rfl,hu,bO rfl,trivial⟩
 ·rename_i z hz hr;refine main hz hr fun u1 u' bb h1 _ hu=>hq _ ?_
  obtain⟨rfl,rfl⟩:=h1 rfl;cases ha;cases ok with
  |false=>exact hu
  |true=>exact dU.2 ⟨_,rfl,hu,bO rfl,trivial⟩
 ·cases ha
theorem Et (h:fH ρ m w){t:aM}{x x' k k' v:ae}{ok:Bool}(hx:aQ ρ x x')(hk:aQ ρ k k')(ha:gH P t x k ok m=some v)
  {Q:ae->au->Prop}(hq:∀v',aQ ρ v v'->Q v' w):dA P (az ρ m) N (Instr.lookup t x' k' ok) Q w:=by
 unfold gH at ha
 split at ha
 ·rename_i kt et r s ht;obtain rfl:=(aF (by rfl)).1 hk
  split at ha
  ·rename_i z hkt hz;have fin:∀{es jD:List MapEntry} (_:bB (vz ρ) es jD) (_:strKeys es=true),(let v:=match kX s es 0 with |some (_,v)=>(v,true)|none=>(z,false)
     (if ok then ae.tuple #[v.1,.bool v.2]else v.1))=v->∀b,dA P (az ρ m) N (do
      Instr.checkKey b 10000 kt (.string s)
      let(v,ok')<-match<-Instr.findKey kt (.string s) jD with
       |some (_,v)=>pure (v,true)
       |none=>pure (<-zeroValue et,false)
      pure (if ok then ae.tuple #[v,.bool ok']else v)) Q w:=by
    intro es jD he hs hv b;rw[ar];refine tg hkt ?_;rw[ar];refine Ao hkt he hs fun r hr=>?_
    have Hh:∀u u' b,aQ ρ u u'->(if ok then ae.tuple #[u,.bool b]else u)=v->Q (if ok then ae.tuple #[u',.bool b]else u') w:=by
     intro u u' b hu hv;refine hq _ ?_;subst hv;cases ok with
     |false=>exact hu
     |true=>exact dU.2 ⟨_,rfl,hu,bO rfl,trivial⟩
    split at hr
    ·rename_i j u hf;obtain⟨u',rfl,hu⟩:=hr;simp only[hf]at hv;exact Hh _ _ _ hu hv
    ·rename_i hf;subst hr;simp only[hf]at hv;simp only[];rw[ar];refine eH hz ?_;exact Hh _ _ _ (by
      have :=jP hz;refine bO ?_;unfold gL at hz;cases z with
      |agg cs=>exact this.1
      |tuple cs=>exact absurd this.1 (by simp[ae.cells,cR])
      |_=>simpa[plain,ae.cells]using this.1) hv
   unfold Instr.lookup;rw[ar];refine aG ht ?_;simp only[]
   split at ha
   ·rename_i es FH
    split at ha
    ·rename_i hsk;simp only[ah]at ha
     split at FH
     ·simp only[ah]at FH;subst FH;obtain rfl:=(aF (by rfl)).1 hx;exact fin (es:=[]) (jD:=[]) trivial rfl ha true
     ·rename_i b;simp only[]at FH
      split at FH
      ·rename_i hc;simp only[ag,beq_iff_eq]at hc;simp only[ah]at FH;subst FH;obtain⟨p,hp,rfl⟩:=gV.1 hx;obtain⟨jD,g1,g2⟩:=h.maps b p hp hc.1 hc.2;simp only[bind_assoc];rw[ar];refine pG (R:=az ρ m) g1 (by intro _ _ _ h;cases h) rfl ⟨b,p,hp,rfl,.inl hc.1,hc.2⟩ ?_;simp only[pure_bind];exact fin g2 hsk ha _
      ·cases FH
    ·cases ha
   ·cases ha
  ·cases ha
 ·rename_i kt et b cs ht;exact Es h ht hx hk ha hq
 ·cases ha
theorem Am {s:ByteArray}:∀{es:List MapEntry}{i j:Nat}{v:ae},kX s es i=some (j,v)->i<=j/\∃e,es[j-i]?=some e/\e.key= .string s
 | [],_,_,_,h=>by cases h
 |e::es,i,j,v,h=>by
  unfold kX at h
  split at h
  ·rename_i k hk
   split at h
   ·rename_i hb;simp only[ah,ay]at h;obtain⟨rfl,rfl⟩:=h;refine⟨ai _,e,de,?_⟩;rw[hk,bytes_beq.1 hb]
   ·obtain⟨h1,e',h2,h3⟩:=Am h;refine⟨aj,e',?_,h3⟩;rw[show j-i=(j-(i+1))+1 by omega];simpa using h2
  ·cases h
theorem zW {l r:List MapEntry}(h:bB (vz ρ) l r)(i:Nat){f g:MapEntry->MapEntry}(hfg:∀a b,vz ρ a b->vz ρ (f a) (g b)):bB (vz ρ) (l.modify i f) (r.modify i g):=by
 refine bB.GQ (by simp[h.length]) fun j a b ha hb=>?_
 rw[List.getElem?_modify]at ha hb;cases hl:l[j]? with
 |none=>simp[hl]at ha
 |some x=>
  obtain⟨y,hy,KJ⟩:=h.get hl;rw[hl]at ha;rw[hy]at hb;obtain rfl:=Option.some.inj ha;obtain rfl:=Option.some.inj hb
  show vz ρ (if i=j then f x else x) (if i=j then g y else y)
  by_cases s7:i=j
  ·rw[bC s7,bC s7];exact hfg _ _ KJ
  ·rw[bS s7,bS s7];exact KJ
theorem GW (h:fH ρ m w){t kt et:aM}{b:Nat}{x' k' v v':ae}{cs:Array ae}{m':Mem}(ht:P.underlying t=some (.map kt et))(hx:aQ ρ (.map (some b)) x')(hk:aQ ρ (.agg cs) k')(hv:aQ ρ v v')(ha:tZ P kt b (.agg cs) v m=some m')
  {Q:Unit->au->Prop}(hq:∀w',Left ρ m w ρ m' w'->Q () w'):dA P (az ρ m) N (Instr.mapUpdate t x' k' v') Q w:=by
 unfold tZ at ha;simp only[]at ha;obtain⟨r,hr⟩:∃r,y8 P kt b (.agg cs) m=some r:=by
  cases hm:y8 P kt b (.agg cs) m with
  |none=>rw[hm]at ha;cases ha
  |some r=>exact⟨r,rfl⟩
 obtain⟨Hk,MH,h3,⟨d,h4⟩,h5,h6⟩:=mI hr;rw[hr]at ha;obtain rfl:=px h3 hk;obtain⟨p,hp,rfl⟩:=gV.1 hx;obtain⟨jD,g1,g2⟩:=h.maps b p hp Hk MH;have yE:(az ρ m).ob p.c:=⟨b,p,hp,rfl,.inl Hk,MH⟩;unfold Instr.mapUpdate;rw[ar];refine aG ht ?_;simp only[];rw[ar];refine pG g1 (by intro _ _ _ h;cases h) rfl yE ?_;simp only[];rw[ar];refine lC (h5 _) ?_;rw[ar];refine JY h4 g2 h6 fun r' wX=>?_
 cases r with
 |some iu=>
  obtain⟨i,u⟩:=iu;obtain⟨u',rfl,hu⟩:=wX;simp only[]at ha
  split at ha
  ·rename_i e he
   split at ha
   ·rename_i hb;rw[ag]at hb;cases ha;obtain⟨e',adx,hee⟩:=g2.get he;have ads:e'.key=e.key:=px hb.1 hee.1;have hold:((jD[i]?).map (·.key)).getD (.agg cs)=e.key:=by
     rw[show jD[i]?=some e' by simpa using adx];exact ads
    simp only[];rw[ar,hold];have UM:∀{Q:ae->au->Prop},Q (.agg cs) w->dA P (az ρ m) N (Instr.keyThatStays e.key (.agg cs)) Q w:=by
     intro Q hQ;unfold Instr.keyThatStays;rw[bC hb.2];exact hQ
    refine UM ?_;refine pE g1 (by intro _ _ _ h;cases h) (by intro _ _ _ h;cases h) rfl yE ?_;refine hq _ (h.setObj hp (.inl Hk) (by rfl) g1 (by intro _ _ _ h;cases h) (by intro _ _ _ h;cases h) (fun _=>⟨_,rfl,?_⟩) (fun MB=>by have :(m.blk b).kind=3:=MB;omega));simp only[Array.toList_modify];exact zW g2 i fun a b MJ=>⟨bO h3,hv,MJ.2.2⟩
   ·cases ha
  ·cases ha
 |none=>
  have wX:r'=none:=wX;subst wX;cases ha;simp only[];refine pE g1 (by intro _ _ _ h;cases h) (by intro _ _ _ h;cases h) rfl yE ?_;refine hq _ (h.setObj hp (.inl Hk) (by rfl) g1 (by intro _ _ _ h;cases h) (by intro _ _ _ h;cases h) (fun _=>⟨_,rfl,?_⟩) (fun MB=>by have :(m.blk b).kind=3:=MB;omega));simp only[Array.toList_push];exact g2.append ⟨⟨bO h3,hv,rfl⟩,trivial⟩
theorem y6 (h:fH ρ m w){t:aM}{x x' k k' v v':ae}{m':Mem}(hx:aQ ρ x x')(hk:aQ ρ k k')(hv:aQ ρ v v')(ha:jf P t x k v m=some m')
  {Q:Unit->au->Prop}(hq:∀w',Left ρ m w ρ m' w'->Q () w'):dA P (az ρ m) N (Instr.mapUpdate t x' k' v') Q w:=by
 unfold jf at ha
 split at ha
 ·rename_i kt et b s ht;obtain rfl:=(aF (by rfl)).1 hk
  split at ha
  ·rename_i hkt;simp only[]at ha
   split at ha
   ·rename_i hc;simp only[ag,beq_iff_eq]at hc;obtain⟨⟨Hk,MH⟩,hsk⟩:=hc;obtain⟨p,hp,rfl⟩:=gV.1 hx;obtain⟨jD,g1,g2⟩:=h.maps b p hp Hk MH;have yE:(az ρ m).ob p.c:=⟨b,p,hp,rfl,.inl Hk,MH⟩;unfold Instr.mapUpdate;rw[ar];refine aG ht ?_;simp only[];rw[ar];refine pG g1 (by intro _ _ _ h;cases h) rfl yE ?_;simp only[];rw[ar];refine tg hkt ?_;rw[ar];refine Ao hkt g2 hsk fun r hr=>?_
    split at hr
    ·rename_i i u hf;obtain⟨u',rfl,hu⟩:=hr;rw[hf]at ha;simp only[ah]at ha;subst ha;obtain⟨_,e,Y7,he2⟩:=Am hf;rw[Nat.sub_zero]at Y7;obtain⟨e',adx,hee⟩:=g2.get Y7;have ads:e'.key= .string s:=by have :=hee.1;rw[he2]at this;exact(aF (by rfl)).1 this
     have hold:((jD[i]?).map (·.key)).getD (.string s)= .string s:=by
      rw[show jD[i]?=some e' by simpa using adx];exact ads
     simp only[];rw[ar,hold];have UM:∀{Q:ae->au->Prop},Q (.string s) w->dA P (az ρ m) N (Instr.keyThatStays (.string s) (.string s)) Q w:=by
      intro Q hQ;unfold Instr.keyThatStays;rw[bC (by show(s==s)=true;exact bytes_beq.2 rfl)];exact hQ
     refine UM ?_;refine pE g1 (by intro _ _ _ h;cases h) (by intro _ _ _ h;cases h) rfl yE ?_;refine hq _ (h.setObj hp (.inl Hk) (by rfl) g1 (by intro _ _ _ h;cases h) (by intro _ _ _ h;cases h) (fun _=>⟨_,rfl,?_⟩) (fun MB=>by have :(m.blk b).kind=3:=MB;omega));simp only[Array.toList_modify];exact zW g2 i fun a b MJ=>⟨bO rfl,hv,MJ.2.2⟩
    ·rename_i hf;subst hr;rw[hf]at ha;simp only[ah]at ha;subst ha;simp only[];refine pE g1 (by intro _ _ _ h;cases h) (by intro _ _ _ h;cases h) rfl yE ?_;refine hq _ (h.setObj hp (.inl Hk) (by rfl) g1 (by intro _ _ _ h;cases h) (by intro _ _ _ h;cases h) (fun _=>⟨_,rfl,?_⟩) (fun MB=>by have :(m.blk b).kind=3:=MB;omega));simp only[Array.toList_push];exact g2.append ⟨⟨bO rfl,hv,rfl⟩,trivial⟩
   ·cases ha
  ·cases ha
 ·rename_i kt et b cs ht;exact GW h ht hx hk hv ha hq
 ·cases ha
theorem xj {x x' v:ae}{t a:aM}{ok:Bool}(hx:aQ ρ x x')(ha:qk P x t a ok=some v){R:Perm}
  {Q:ae->au->Prop}(hq:∀v',aQ ρ v v'->Q v' w):dA P R N (Instr.typeAssert x' t a ok) Q w:=by
 unfold qk at ha
 split at ha
 ·cases ha
 ·rename_i d hni hd;obtain rfl:=(aF (by rfl)).1 hx;obtain⟨z,hz,rfl⟩:=aC.1 ha;unfold Instr.typeAssert;rw[ar];refine aG hd ?_;cases d with
  |interface ms=>exact(hni _ rfl).elim
  |_=>
   simp only[if_true];rw[ar];refine eH hz ?_;exact hq _ (dU.2 ⟨_,rfl,yJ hz,bO rfl,trivial⟩)
 ·rename_i d dt u hni hd;obtain⟨u',rfl,hu⟩:=fQ.1 hx;unfold Instr.typeAssert;rw[ar];refine aG hd ?_;cases d with
  |interface ms=>exact(hni _ rfl).elim
  |_=>
   simp only[if_true]
   split at ha
   ·rename_i hdt;rw[bC hdt];simp only[ah]at ha;subst ha;exact hq _ (dU.2 ⟨_,rfl,hu,bO rfl,trivial⟩)
   ·rename_i hdt;rw[bS hdt];obtain⟨z,hz,rfl⟩:=aC.1 ha;rw[ar];refine eH hz ?_;exact hq _ (dU.2 ⟨_,rfl,yJ hz,bO rfl,trivial⟩)
 ·cases ha
theorem fH.Om(h:fH ρ m w){k:dJ}{o:Obj}(hk:k.kind=2\/k.kind=3)(U0:k.kind=2->∃jD,o= .map jD k.clock/\bB (vz ρ) k.es.toList jD.toList)(JJ:k.kind=3->o= .stringIter k.str k.pos):
  Left ρ m w (ρ.put m.next ⟨w.heap.size,0,0,0⟩) (m.alloc k) {w with heap:=w.heap.push o}:=by
 have hn:=rB h;have kz:(m.alloc k).blk m.next={k with aZ:=m.tick}:=by rw[Mem.bY,bC rfl]
 refine⟨dh.uf hn _,(h.bump k).lay hn de (o:=o) rfl rfl (fun h1=>?_) (fun h2=>?_) (fun h3=>?_),
  (mB (lh h _) rfl rfl rfl rfl _).trans (vQ hn (ai _)),A1⟩
 ·rw[kz]at h1;simp at h1;omega
 ·rw[kz]at h2⊢;exact U0 h2
 ·rw[kz]at h3⊢;exact⟨rfl,JJ h3⟩
theorem GI (h:fH ρ m w){t:aM}{x x' v:ae}{m':Mem}(hx:aQ ρ x x')(ha:yT P t x m=some (v,m')){R:Perm}
  {Q:ae->au->Prop}(hq:∀v' w' bu,Left ρ m w bu m' w'->aQ bu v v'->Q v' w'):dA P R N (Instr.range t x') Q w:=by
 unfold yT at ha
 split at ha
 ·rename_i s ht;obtain rfl:=(aF (by rfl)).1 hx;simp only[ah,ay]at ha;obtain⟨rfl,rfl⟩:=ha;unfold Instr.range;rw[ar];refine aG ht ?_;simp only[pure_bind];rw[ar];refine LV ?_;exact hq _ _ _ (h.Om (.inr rfl) lQ fun _=>rfl) (cL.2 ⟨_,dh.kH ..,rfl,rfl⟩)
 ·cases ha
theorem I9 (h:fH ρ m w){it it' v:ae}{isS:Bool}{ty:aM}{m':Mem}(hx:aQ ρ it it')(ha:Fq it isS m=some (v,m'))
  {Q:ae->au->Prop}(hq:∀v' w' bu,Left ρ m w bu m' w'->aQ bu v v'->Q v' w'):dA P (az ρ m) N (Instr.next it' isS ty) Q w:=by
 unfold Fq at ha
 split at ha
 ·rename_i b;obtain⟨p,hp,_,rfl⟩:=cL.1 hx;simp only[]at ha
  split at ha
  ·rename_i hc;simp only[ag,beq_iff_eq]at hc;obtain⟨g0,g1⟩:=h.lD b p hp hc.1 hc.2;have yE:(az ρ m).ob p.c:=⟨b,p,hp,rfl,.inr hc.1,hc.2⟩;unfold Instr.next;simp only[g0,Nat.zero_add];rw[ar];refine pG g1 (by intro _ _ _ h;cases h) rfl yE ?_;simp only[]
   split at ha
   ·rename_i cC;rw[bC cC];simp only[ah,ay]at ha;obtain⟨rfl,rfl⟩:=ha;rw[ar];refine pE g1 (by intro _ _ _ h;cases h) (by intro _ _ _ h;cases h) rfl yE ?_;exact hq _ _ _ (h.setObj hp (.inr hc.1) (by rfl) g1 (by intro _ _ _ h;cases h) (by intro _ _ _ h;cases h) (fun h2=>by have :(m.blk b).kind=2:=h2;omega) fun _=>⟨g0,rfl⟩) (bO rfl)
   ·rename_i cC;rw[bS cC];simp only[ah,ay]at ha;obtain⟨rfl,rfl⟩:=ha;exact hq _ _ _ (Left.refl h) (bO rfl)
  ·cases ha
 ·cases ha
end
end Go.AM
namespace Go.AM
open Go
section
variable {P:aD}{ρ:dh}{m:Mem}{w:au}{N:Nat}
def aiS (ρ:dh)(v:ae)(nx:Next):Prop:=∃v',aQ ρ v v'/\(nx= .value v'\/(nx= .skip/\v=undef/\v'=undef))
def gG (P:aD)(ρ:dh)(m:Mem)(N:Nat)(s:Sem Next)(v:ae)(m':Mem)(w:au):Prop:=
 dA P (az ρ m) N s (fun nx w'=>∃bu,Left ρ m w bu m' w'/\aiS bu v nx) w
variable {v:ae}{m':Mem}
theorem gG.val{s:Sem ae}(h:∀{Q:ae->au->Prop},(∀v' w' bu,Left ρ m w bu m' w'->aQ bu v v'->Q v' w')->dA P (az ρ m) N s Q w):gG P ρ m N (do pure (.value (<-s))) v m' w:=by
 unfold gG;rw[ar];exact h fun v' w' bu hL hv=>⟨bu,hL,v',hv,.inl rfl⟩
theorem gG.iY(hs:fH ρ m w){s:Sem ae}(h:∀{Q:ae->au->Prop},(∀v',aQ ρ v v'->Q v' w)->dA P (az ρ m) N s Q w):gG P ρ m N (do pure (.value (<-s))) v m w:=
 gG.val fun hq=>h fun v' hv=>hq v' w ρ (Left.refl hs) hv
theorem gG.unit{s:Sem Unit}(h:∀{Q:Unit->au->Prop},(∀w',Left ρ m w ρ m' w'->Q () w')->dA P (az ρ m) N s Q w):gG P ρ m N (do s;pure .skip) undef m' w:=by
 unfold gG;rw[ar];exact h fun w' hL=>⟨ρ,hL,undef,mD,.inr ⟨rfl,rfl,rfl⟩⟩
theorem gG.now(hs:fH ρ m w){v':ae}(hv:aQ ρ v v'):gG P ρ m N (pure (.value v')) v m w:=⟨ρ,Left.refl hs,v',hv,.inl rfl⟩
theorem z9 {r r':ae}{name:String}{f:Nat}{recv:ae}(hr:aQ ρ r r')(hm:dR P r name=some (f,recv)):
  ∃t u u' i mt e,r= .iface t u/\r'= .iface t u'/\recv=u/\aQ ρ u u'/\P.info? t=some i/\P.underlying t=some (.pointer e)/\i.methods.find? (·.name==name)=some mt/\mt.path.toList=[]/\mt.func=some (f,true):=by
 unfold dR at hm
 split at hm
 ·rename_i t u;obtain⟨u',rfl,hu⟩:=fQ.1 hr
  split at hm
  ·rename_i i e hi he
   split at hm
   ·rename_i mt hmt
    split at hm
    ·rename_i f' hp hf;simp only[ah,ay]at hm;obtain⟨rfl,rfl⟩:=hm;exact⟨t,u,u',i,mt,e,rfl,rfl,rfl,hu,hi,he,hmt,hp,hf⟩
    ·cases hm
   ·cases hm
  ·cases hm
 ·cases hm
theorem AK {t:aM}{u':ae}{i:TypeInfo}{mt:Method}{name:String}{f n:Nat}(hi:P.info? t=some i)(hmt:i.methods.find? (·.name==name)=some mt)(hp:mt.path.toList=[])(hf:mt.func=some (f,true))
  {R:Perm}{Q:Option Bool->au->Prop}(hq:Q (some false) w):dA P R N (nilAhead (n+1) t u' name) Q w:=by
 unfold nilAhead;rw[ar];refine gZ hi ?_;rw[hmt];simp only[hp,followBlind,pure_bind];rw[hf];exact hq
theorem jh {op:BinOp}{t:aM}{x y:bX}{a b:ae}{R:Perm}{Q:Unit->au->Prop}(h1:∀xs ys,a= .agg xs->b= .agg ys->False)(h2:a= .nilIface->b= .nilIface->(isConst x||isConst y)=true)(hq:Q () w):
  dA P R N (eqGuard op t x y a b) Q w:=by
 unfold eqGuard
 split
 ·rw[bS de]
  split
  ·have :=h2 rfl rfl;unfold isConst at this;rw[bC (by cases x<;>cases y<;>simp_all)];exact hq
  ·exact(h1 _ _ rfl rfl).elim
  ·exact hq
 ·rw[bS de]
  split
  ·have :=h2 rfl rfl;unfold isConst at this;rw[bC (by cases x<;>cases y<;>simp_all)];exact hq
  ·exact(h1 _ _ rfl rfl).elim
  ·exact hq
 ·exact hq
theorem Aq {t:aM}{xc yc:bX}{x x' y y':ae}{b:Bool}(hx:aQ ρ x x')(hy:aQ ρ y y')(he:rK P t (isConst xc) (isConst yc) x y=some b){R:Perm}:
  (∀{Q:Bool->au->Prop},Q b w->dA P R N (Op.equal t x' y') Q w)/\(∀op {Q:Unit->au->Prop},Q () w->dA P R N (eqGuard op t xc yc x' y') Q w)/\
  (∀op,binOp op t x' y'=match op with | .eql=>(do pure (.bool (<-Op.equal t x' y')))| .neq=>(do pure (.bool (!(<-Op.equal t x' y'))))|op=>binOp op t x' y'):=by
 unfold rK at he
 split at he
 ·rename_i e q hu;simp only[ah]at he;subst he;obtain rfl:=(aF (by rfl)).1 hx;have DT:∃q',y'= .pointer q'/\q'.isNone=q.isNone:=by
   cases q with
   |none=>exact⟨none,(aF (by rfl)).1 hy,rfl⟩
   |some a=>obtain⟨p,_,_,rfl⟩:=cL.1 hy;exact⟨_,rfl,rfl⟩
  obtain⟨q',rfl,xS⟩:=DT;refine⟨fun hQ=>?_,fun op Q hQ=>jh (fun _ _ h _=>by cases h) lQ hQ,fun op=>by cases op<;>rfl⟩;unfold Op.equal Op.maxDepth Op.equalIn;rw[ar];refine aG hu ?_
  show _
  rw[<-xS]at hQ;exact hQ
 ·rename_i e a hu;simp only[ah]at he;subst he;obtain⟨p,_,_,rfl⟩:=cL.1 hx;obtain rfl:=(aF (by rfl)).1 hy;refine⟨fun hQ=>?_,fun op Q hQ=>jh (fun _ _ h _=>by cases h) lQ hQ,fun op=>by cases op<;>rfl⟩;unfold Op.equal Op.maxDepth Op.equalIn;rw[ar];refine aG hu ?_;exact hQ
 ·rename_i e l c q l' c' hu;simp only[ah]at he;subst he;obtain rfl:=(aF (by rfl)).1 hx;have DT:∃q' c'',y'= .slice q' l' c''/\q'.isNone=q.isNone:=by
   cases q with
   |none=>exact⟨none,_,(aF (by rfl)).1 hy,rfl⟩
   |some a=>obtain⟨p,_,_,_,rfl,_⟩:=bV.1 hy;exact⟨_,_,rfl,rfl⟩
  obtain⟨q',c'',rfl,xS⟩:=DT;refine⟨fun hQ=>?_,fun op Q hQ=>jh (fun _ _ h _=>by cases h) lQ hQ,fun op=>by cases op<;>rfl⟩;unfold Op.equal Op.maxDepth Op.equalIn;rw[ar];refine aG hu ?_;rw[<-xS]at hQ;exact hQ
 ·rename_i e a l c l' c' hu;simp only[ah]at he;subst he;obtain⟨p,_,_,_,rfl,_⟩:=bV.1 hx;obtain rfl:=(aF (by rfl)).1 hy;refine⟨fun hQ=>?_,fun op Q hQ=>jh (fun _ _ h _=>by cases h) lQ hQ,fun op=>by cases op<;>rfl⟩;unfold Op.equal Op.maxDepth Op.equalIn;rw[ar];refine aG hu ?_;exact hQ
 ·rename_i ms hu
  split at he
  ·rename_i hc;simp only[ah]at he;subst he;obtain rfl:=(aF (by rfl)).1 hx;obtain rfl:=(aF (by rfl)).1 hy;refine⟨fun hQ=>?_,fun op Q hQ=>jh (fun _ _ h _=>by cases h) (fun _ _=>hc) hQ,fun op=>by cases op<;>rfl⟩;unfold Op.equal Op.maxDepth Op.equalIn;rw[ar];refine aG hu ?_;exact hQ
  ·cases he
 ·rename_i ms t2 u hu;simp only[ah]at he;subst he;obtain rfl:=(aF (by rfl)).1 hx;obtain⟨u',rfl,_⟩:=fQ.1 hy;refine⟨fun hQ=>?_,fun op Q hQ=>jh (fun _ _ h _=>by cases h) (fun _ h=>by cases h) hQ,fun op=>by cases op<;>rfl⟩;unfold Op.equal Op.maxDepth Op.equalIn;rw[ar];refine aG hu ?_;exact hQ
 ·rename_i ms t2 u hu;simp only[ah]at he;subst he;obtain⟨u',rfl,_⟩:=fQ.1 hx;obtain rfl:=(aF (by rfl)).1 hy;refine⟨fun hQ=>?_,fun op Q hQ=>jh (fun _ _ h _=>by cases h) lQ hQ,fun op=>by cases op<;>rfl⟩;unfold Op.equal Op.maxDepth Op.equalIn;rw[ar];refine aG hu ?_;exact hQ
 ·cases he
theorem Ej {ev pf:bX->ae}{o:gU}(dS:∀x∈o.op.operands,aQ ρ (ev x) (pf x))(wu:∀cs b,o.op≠ .select cs b)(hs:fH ρ m w)(h:dc P ev o=some v):gG P ρ m N (execOp pf o) v m w:=by
 unfold dc at h
 split at h
 ·rename_i hp;rw[Array.all_eq_true']at hp;have he:execOp pf o=execOp ev o:=execOp_congr o wu fun x hx=>px (hp x hx) (dS x hx)
  rw[he]
  split at h
  ·rename_i u hu
   split at h
   ·rename_i dm;simp only[ah]at h;subst h;exact lC hu ⟨ρ,Left.refl hs,_,bO dm,.inl rfl⟩
   ·cases h
  ·cases h
 ·cases h
theorem yY {ev pf:bX->ae}{ps:Array (Nat×bX)}(dS:∀x∈(ps.toList.map (·.2)).toArray,aQ ρ (ev x) (pf x)):
  bB (fun(a b:Nat×ae)=>b.1=a.1/\aQ ρ a.2 b.2) (ps.map fun(i,x)=>(i,ev x)).toList (ps.map fun(i,x)=>(i,pf x)).toList:=by
 simp only[Array.toList_map];refine bB.pI fun x hx=>⟨rfl,dS _ ?_⟩
 simp only[List.mem_toArray,List.mem_map];exact⟨x,hx,rfl⟩
theorem N9 {ev pf:bX->ae}{x:Option bX}(dS:∀y∈x,aQ ρ (ev y) (pf y)):HW ρ (x.map ev) (x.map pf):=by
 cases x with
 |none=>trivial
 |some y=>exact dS y rfl
set_option maxHeartbeats 2000000 in
theorem Fi{ev pf:bX->ae}{o:gU}(hs:fH ρ m w)(hN:N<=w.heap.size)(dS:∀x∈o.op.operands,aQ ρ (ev x) (pf x))(h:dx P ev o m=some (v,m')):gG P ρ m N (execOp pf o) v m' w:=by
 have dm:(∀cs b,o.op≠ .select cs b)->(dc P ev o).map (fun v=>(v,m))=some (v,m')->gG P ρ m N (execOp pf o) v m' w:=by
  intro wu hm;obtain⟨u,hu,he⟩:=aC.1 hm;simp only[ay]at he;obtain⟨rfl,rfl⟩:=he;exact Ej dS wu hs hu
 unfold dx at h
 split at h
 ·
  rename_i x ho;simp only[ho,Op.operands]at dS;simp only[ah,ay]at h;obtain⟨rfl,rfl⟩:=h;simp only[execOp,ho];exact gG.now hs (dS x de)
 ·rename_i x ho;simp only[ho,Op.operands]at dS;simp only[ah,ay]at h;obtain⟨rfl,rfl⟩:=h;simp only[execOp,ho];exact gG.now hs (dS x de)
 ·
  rename_i c a b ho;simp only[ho,Op.operands]at dS
  split at h
  ·rename_i t hc;simp only[ah,ay]at h;obtain⟨rfl,rfl⟩:=h;have h1:=dS c de;rw[hc]at h1;have h1:=(aF (by rfl)).1 h1;simp only[execOp,ho,h1,asBool,pure_bind];refine gG.now hs ?_;cases t
   ·exact dS b de
   ·exact dS a de
  ·cases h
 ·
  rename_i e ho;obtain⟨z,hz,he⟩:=aC.1 h;simp only[cE,ay]at he;obtain⟨rfl,rfl⟩:=he;simp only[execOp,ho];refine gG.val fun hq=>?_
  unfold Instr.alloc;rw[ar];refine eH hz ?_
  show dA P (az ρ m) N (do let a<-newVar e z;pure (ae.pointer (some a))) _ w
  rw[ar];exact Ca hs (sz:=0) (yI hz) fun w' bu hL hv=>hq _ _ _ hL hv
 ·
  rename_i e x ho;simp only[ho,Op.operands]at dS;simp only[cE,ah,ay]at h;obtain⟨rfl,rfl⟩:=h;simp only[execOp,ho];refine gG.val fun hq=>?_
  unfold Instr.box
  show dA P (az ρ m) N (do let a<-newVar e (pf x);pure (ae.pointer (some a))) _ w
  rw[ar];exact Ca hs (sz:=0) (dS x de).cells fun w' bu hL hv=>hq _ _ _ hL hv
 ·
  rename_i t ps ho;simp only[ho,Op.operands]at dS;obtain⟨u,hu,he⟩:=aC.1 h;simp only[ay]at he;obtain⟨rfl,rfl⟩:=he;simp only[execOp,ho];exact gG.iY hs fun hq=>HQ (yY dS) hu hq
 ·
  rename_i t n ps ho;simp only[ho,Op.operands]at dS;simp only[execOp,ho];exact gG.val fun hq=>yo hs (yY dS) h hq
 ·
  rename_i t a ho;simp only[ho,Op.operands]at dS;obtain⟨u,hu,he⟩:=aC.1 h;simp only[ay]at he;obtain⟨rfl,rfl⟩:=he;simp only[execOp,ho];exact gG.iY hs fun hq=>Ac hs (dS a de) hu hq
 ·
  rename_i t a x ho;simp only[ho,Op.operands]at dS;obtain⟨u,hu,he⟩:=aC.1 h;simp only[ay]at he;obtain⟨rfl,rfl⟩:=he;simp only[execOp,ho];exact gG.unit fun hq=>Gv hs (dS a de) (dS x de) hu hq
 ·
  rename_i x ho;simp only[ho,Op.operands]at dS;have h1:=dS x de
  split at h
  ·rename_i a hx;simp only[ah,ay]at h;obtain⟨rfl,rfl⟩:=h;rw[hx]at h1;have h2:=cL.1 h1;obtain⟨p,_,_,h3⟩:=h2;simp only[execOp,ho,h3];rw[h3]at h1;exact gG.now hs h1
  ·rename_i name first cap hx
   split at h
   ·rename_i r hr
    split at h
    ·rename_i hm;simp only[ah,ay]at h;obtain⟨rfl,rfl⟩:=h;rw[hx]at h1;obtain⟨f',c',h3,hf,mM⟩:=fP.1 h1;obtain⟨⟨f,recv⟩,hm⟩:=iA.1 hm;obtain⟨r',wX,hrr⟩:=hf.get (i:=0) (by simpa using hr);obtain⟨t,u,u',i,mt,e,rfl,rfl,_,hu,hi,_,hmt,hp,QM⟩:=z9 hrr hm;simp only[execOp,ho,h3];rw[h3]at h1;have akU:(f'[0]?:Option ae)=some (.iface t u'):=by simpa using wX
     rw[akU];unfold gG;simp only[];rw[ar]
     show dA P (az ρ m) N (nilAhead (P.types.size+Made.depth) t u' name>>=_) _ w
     rw[ar];have hd:∃k,P.types.size+Made.depth=k+1:=by
      have :Made.depth≠0:=eS;exact⟨P.types.size+Made.depth-1,aj⟩
     obtain⟨k,hk⟩:=hd;rw[hk];refine AK hi hmt hp QM ?_;exact⟨ρ,Left.refl hs,_,h1,.inl rfl⟩
    ·cases h
   ·cases h
  ·cases h
 ·
  rename_i op t x y q ho;have wu:∀cs b,o.op≠ .select cs b:=fun cs b hc=>by rw[ho]at hc;cases hc
  have hx:aQ ρ (ev x) (pf x):=dS x (by rw[ho];simp[Op.operands]);have hy:aQ ρ (ev y) (pf y):=dS y (by rw[ho];simp[Op.operands])
  split at h
  ·split at h
   ·rename_i b hb;simp only[ah,ay]at h;obtain⟨rfl,rfl⟩:=h;obtain⟨g1,g2,g3⟩:=Aq (N:=N) (w:=w) (R:=az ρ m) hx hy hb;simp only[execOp,ho];refine gG.iY hs fun hq=>?_
    rw[ar];refine g2 _ ?_;rw[g3];simp only[];rw[ar];exact g1 (hq _ (bO rfl))
   ·exact dm wu h
  ·split at h
   ·rename_i b hb;simp only[ah,ay]at h;obtain⟨rfl,rfl⟩:=h;obtain⟨g1,g2,g3⟩:=Aq (N:=N) (w:=w) (R:=az ρ m) hx hy hb;simp only[execOp,ho];refine gG.iY hs fun hq=>?_
    rw[ar];refine g2 _ ?_;rw[g3];simp only[];rw[ar];exact g1 (hq _ (bO rfl))
   ·exact dm wu h
  ·exact dm wu h
 ·
  rename_i ho;exact dm (fun cs b hc=>by rw[ho]at hc;cases hc) h
 ·
  rename_i s d x ho
  split at h
  ·rename_i r hr;simp only[ah]at h;subst h;simp only[execOp,ho];exact gG.val fun hq=>Dg hs hN (dS x (by rw[ho];simp[Op.operands])) hr hq
  ·exact dm (fun cs b hc=>by rw[ho]at hc;cases hc) h
 ·
  rename_i t x ho;simp only[ho,Op.operands]at dS
  split at h
  ·cases h
  ·rename_i d hni hd;simp only[ah,ay]at h;obtain⟨rfl,rfl⟩:=h;simp only[execOp,ho];refine gG.iY hs fun hq=>?_
   unfold Instr.makeInterface;rw[ar];refine aG hd ?_;have :=hq _ (fQ.2 ⟨_,rfl,dS x de⟩);cases d with
   |interface ms=>exact(hni _ rfl).elim
   |_=>exact this
  ·cases h
 ·
  rename_i fn f c ho;simp only[ho,Op.operands]at dS;simp only[ah,ay]at h;obtain⟨rfl,rfl⟩:=h;simp only[execOp,ho];refine gG.iY hs fun hq=>?_
  refine hq _ (fP.2 ⟨_,_,rfl,?_,?_⟩)
  ·simp only[Array.toList_map];exact bB.pI fun x hx=>dS x (by simp;exact .inl (by simpa using hx))
  ·simp only[Array.toList_map];exact bB.pI fun x hx=>dS x (by simp;exact .inr (by simpa using hx))
 ·
  rename_i t ho;simp only[ah,ay]at h;obtain⟨rfl,rfl⟩:=h;simp only[execOp,ho];refine gG.val fun hq=>?_
  refine hq _ _ _ (hs.Om (o:= .map #[] 0) (.inl rfl) (fun _=>⟨#[],rfl,trivial⟩) fun h=>by cases h) (gV.2 ⟨_,dh.kH ..,rfl⟩)
 ·
  rename_i t l c ho;simp only[ho,Op.operands]at dS;simp only[execOp,ho];exact gG.val fun hq=>y9 hs (dS l de) (dS c de) h hq
 ·
  rename_i t x lo hi ho
  split at h
  ·rename_i u hu;simp only[ah,ay]at h;obtain⟨rfl,rfl⟩:=h;simp only[ho,Op.operands]at dS;simp only[execOp,ho];exact gG.iY hs fun hq=>Gz hs (dS x de) (N9 fun y hy=>dS y (by simp_all)) (N9 fun y hy=>dS y (by simp_all)) hu hq
  ·exact dm (fun cs b hc=>by rw[ho]at hc;cases hc) h
 ·
  rename_i s x f ho;simp only[ho,Op.operands]at dS;obtain⟨u,hu,he⟩:=aC.1 h;simp only[ay]at he;obtain⟨rfl,rfl⟩:=he;simp only[execOp,ho];exact gG.iY hs fun hq=>zy (dS x de) hu hq
 ·
  rename_i s x f ho;simp only[ho,Op.operands]at dS;obtain⟨u,hu,he⟩:=aC.1 h;simp only[ay]at he;obtain⟨rfl,rfl⟩:=he;simp only[execOp,ho];exact gG.iY hs fun hq=>Hs (dS x de) hu hq
 ·
  rename_i t x i ho;simp only[ho,Op.operands]at dS;obtain⟨u,hu,he⟩:=aC.1 h;simp only[ay]at he;obtain⟨rfl,rfl⟩:=he;simp only[execOp,ho];exact gG.iY hs fun hq=>zi (dS x de) (dS i de) hu hq
 ·
  rename_i t x i ho
  split at h
  ·rename_i u hu;simp only[ah,ay]at h;obtain⟨rfl,rfl⟩:=h;simp only[ho,Op.operands]at dS;simp only[execOp,ho];exact gG.iY hs fun hq=>Hd (dS x de) (dS i de) hu hq
  ·exact dm (fun cs b hc=>by rw[ho]at hc;cases hc) h
 ·
  rename_i t x i ok ho;simp only[ho,Op.operands]at dS;obtain⟨u,hu,he⟩:=aC.1 h;simp only[ay]at he;obtain⟨rfl,rfl⟩:=he;simp only[execOp,ho];exact gG.iY hs fun hq=>Et hs (dS x de) (dS i de) hu hq
 ·
  rename_i t x k u ho;simp only[ho,Op.operands]at dS;obtain⟨m2,hm,he⟩:=aC.1 h;simp only[ay]at he;obtain⟨rfl,rfl⟩:=he;simp only[execOp,ho];exact gG.unit fun hq=>y6 hs (dS x de) (dS k de) (dS u de) hm hq
 ·
  rename_i x t a ok ho;simp only[ho,Op.operands]at dS;obtain⟨u,hu,he⟩:=aC.1 h;simp only[ay]at he;obtain⟨rfl,rfl⟩:=he;simp only[execOp,ho];exact gG.iY hs fun hq=>xj (dS x de) hu hq
 ·
  rename_i t i ho;simp only[ho,Op.operands]at dS
  split at h
  ·rename_i vs QH;obtain⟨u,hu,he⟩:=aC.1 h;simp only[ay]at he;obtain⟨rfl,rfl⟩:=he;have h1:=dS t de;rw[QH]at h1;obtain⟨q0,h2,h3⟩:=dU.1 h1;obtain⟨u',QI,hr⟩:=h3.get (by simpa using hu);simp only[execOp,ho,h2];refine gG.iY hs fun hq=>?_
   unfold Instr.extract;simp only[show q0[i]?=some u' by simpa using QI];exact hq _ hr
  ·cases h
 ·
  rename_i t x ho;simp only[ho,Op.operands]at dS;simp only[execOp,ho];exact gG.val fun hq=>GI hs (dS x de) h hq
 ·
  rename_i it s ho;simp only[ho,Op.operands]at dS;simp only[execOp,ho];exact gG.val fun hq=>I9 hs (dS it de) h hq
 ·
  rename_i b args lB ho;have hb:∀x∈args,aQ ρ (ev x) (pf x):=fun x hx=>dS x (by rw[ho];simp[Op.operands,Call.operands,hx])
  have wu:∀cs b,o.op≠ .select cs b:=fun cs b hc=>by rw[ho]at hc;cases hc
  split at h
  ·rename_i s x ha;have vK:args.map pf=#[pf s,pf x]:=by apply Array.ext';simp[ha]
   have h1:=hb s (by rw[<-Array.mem_toList_iff,ha];simp);have h2:=hb x (by rw[<-Array.mem_toList_iff,ha];simp);simp only[execOp,ho,resolve,pure_bind,invoke,builtin,vK];exact gG.val fun hq=>EL hs h1 h2 h hq
  ·rename_i s x ha;have vK:args.map pf=#[pf s,pf x]:=by apply Array.ext';simp[ha]
   have h1:=hb s (by rw[<-Array.mem_toList_iff,ha];simp);have h2:=hb x (by rw[<-Array.mem_toList_iff,ha];simp);simp only[execOp,ho,resolve,pure_bind,invoke,builtin,vK];exact gG.val fun hq=>Kc hs h1 h2 h hq
  ·rename_i x ha;have vK:args.map pf=#[pf x]:=by apply Array.ext';simp[ha]
   have h2:=hb x (by rw[<-Array.mem_toList_iff,ha];simp);simp only[execOp,ho,resolve,pure_bind,invoke,builtin,vK];exact gG.val fun hq=>HO hs h2 h hq
  ·rename_i x ha;have vK:args.map pf=#[pf x]:=by apply Array.ext';simp[ha]
   have h2:=hb x (by rw[<-Array.mem_toList_iff,ha];simp)
   split at h
   ·rename_i e base n c he hx;simp only[ah,ay]at h;obtain⟨rfl,rfl⟩:=h;rw[hx]at h2;obtain⟨uJ,gK,h3,_⟩:=qM.of h2;obtain⟨st,Ms,eD⟩:=bD.1 he;simp only[execOp,ho,resolve,pure_bind,invoke,builtin,vK];refine gG.iY hs fun hq=>?_
    unfold Builtin.len_;simp only[Ms,h3,List.getElem?_toArray,List.getElem?_cons_zero];rw[ar];refine aG eD ?_;exact hq _ (bO rfl)
   ·exact dm wu h
  ·exact dm wu h
  ·exact dm wu h
  ·cases h
 ·cases h
end
end Go.AM
namespace Go.AM
open Go
def H2 (m:Mem)(b:Nat)(k':dJ):Prop:=
 m.next<=b\/(m.base<=b/\aL m.bl b=false/\(m.floor<=b\/gT m.opn b=true)/\k'.kind=0)\/
 (m.home<=b/\aL m.bl b=false/\(m.blk b).kind≠1/\k'.kind=(m.blk b).kind)\/
 (m.base<=b/\(m.blk b).kind=1/\k'.kind=1/\k'.sz=(m.blk b).sz/\k'.pos=(m.blk b).pos/\k'.cs.length=(m.blk b).cs.length/\
  ∀o:Nat,k'.cs[o]?≠(m.blk b).cs[o]?->bz m.bl b o=false/\(m.floor<=b\/bz m.opn b o=true))
structure Fr (m m':Mem):Prop where
 rest:m'={m with heap:=m'.heap,next:=m'.next,tick:=m'.tick,deaf:=m'.deaf}
 tick:m.tick<=m'.tick
 next:m.next<=m'.next
 blk:∀b,m'.blk b=m.blk b\/(m.tick<=(m'.blk b).aZ/\H2 m b (m'.blk b))
section
variable {m m₁ m₂:Mem}
theorem Fr.refl(m:Mem):Fr m m:=⟨rfl,ai _,ai _,fun _=> .inl rfl⟩
theorem Fr.bl(h:Fr m m₁):m₁.bl=m.bl:=by rw[h.rest]
theorem Fr.home(h:Fr m m₁):m₁.home=m.home:=by rw[h.rest]
theorem Fr.base(h:Fr m m₁):m₁.base=m.base:=by rw[h.rest]
theorem Fr.floor(h:Fr m m₁):m₁.floor=m.floor:=by rw[h.rest]
theorem Fr.opn(h:Fr m m₁):m₁.opn=m.opn:=by rw[h.rest]
theorem Fr.wg(h:Fr m m₁):m₁.wg=m.wg:=by rw[h.rest]
theorem Fr.pend(h:Fr m m₁):m₁.pend=m.pend:=by rw[h.rest]
theorem Fr.trans(h:Fr m m₁)(k:Fr m₁ m₂):Fr m m₂:=by
 refine⟨?_,cp h.tick k.tick,cp h.next k.next,fun b=>?_⟩
 ·rw[k.rest,h.rest]
 ·have e1:=h.bl;have e2:=h.home;have e3:=h.base;have e4:=h.floor;have e5:=h.opn;rcases k.blk b with hk|⟨Bd,FE⟩
  ·rw[hk];exact h.blk b
  ·refine .inr ⟨cp h.tick Bd,?_⟩;unfold H2 at FE;rw[e1,e2,e3,e4,e5]at FE;have hn:=h.next;rcases h.blk b with hb|⟨_,hb⟩
   ·rw[hb]at FE;rcases FE with h1|h1
    ·exact .inl aj
    ·exact .inr h1
   ·rcases FE with h1|h1|⟨h1,h2,h3,h4⟩|⟨h1,h2,h3,h4,h4p,h5,h6⟩
    ·exact .inl aj
    ·exact .inr (.inl h1)
    ·rcases hb with g|g|⟨g1,g2,g3,g4⟩|⟨g1,g2,g3,_,_⟩
     ·exact .inl g
     ·exact .inr (.inl ⟨g.1,g.2.1,g.2.2.1,by rw[h4,g.2.2.2]⟩)
     ·exact .inr (.inr (.inl ⟨g1,g2,g3,by rw[h4,g4]⟩))
     ·exact absurd g3 h3
    ·rcases hb with g|g|⟨g1,g2,g3,g4⟩|⟨g1,g2,g3,g4,g4p,g5,g6⟩
     ·exact .inl g
     ·exact absurd (g.2.2.2.symm.trans h2) de
     ·exact absurd (g4.symm.trans h2) g3
     ·refine .inr (.inr (.inr ⟨g1,g2,h3,h4.trans g4,h4p.trans g4p,h5.trans g5,fun o ho=>?_⟩))
      by_cases hc:(m₂.blk b).cs[o]?=(m₁.blk b).cs[o]?
      ·exact g6 o (by rw[<-hc];exact ho)
      ·exact h6 o hc
theorem Fr.alloc(m:Mem)(k:dJ):Fr m (m.alloc k):=by
 refine⟨rfl,de,de,fun b=>?_⟩;rw[Mem.bY]
 split
 ·rename_i h;exact .inr ⟨ai _,.inl aj⟩
 ·exact .inl rfl
theorem Fr.a8{b:Nat}{k:dJ}(h:H2 m b {k with aZ:=m.tick}):Fr m (m.a8 b k):=by
 refine⟨rfl,de,de,fun b'=>?_⟩;rw[Mem.dE]
 split
 ·rename_i e;subst e;exact .inr ⟨ai _,h⟩
 ·exact .inl rfl
theorem Fr.dK{b o:Nat}{vs:List ae}(h:m.dK b o vs=some m₁):Fr m m₁:=by
 obtain⟨cs,rfl,hk,JG,CE,_⟩:=Mem.qm h;obtain⟨hl,hg,_⟩:=lU CE;refine Fr.a8 (.inr (.inr (.inr ⟨Mem.kJ JG,hk,hk,rfl,rfl,hl,fun x hx=>?_⟩)));have vq:cs[x]?≠(m.blk b).cs[x]?:=hx;rw[hg]at vq
 split at vq
 ·rename_i ky;have :=Mem.qT JG (i:=x-o) aj;rwa[show o+(x-o)=x by omega]at this
 ·exact absurd rfl vq
theorem Fr.own{b:Nat}(h:m.ft b=true):Fr m (m.a8 b {}):=
 Fr.a8 (.inr (.inl ⟨Mem.ss h,(Mem.lZ h).1,(Mem.lZ h).2,rfl⟩))
theorem Mem.lY{b:Nat}(h:m.bg b=true):aL m.bl b=false/\m.home<=b:=by
 unfold Mem.bg at h;simpa using h
theorem Fr.obj{b:Nat}{k:dJ}(h:m.bg b=true)(hk:(m.blk b).kind≠1)(OV:k.kind=(m.blk b).kind):Fr m (m.a8 b k):=
 Fr.a8 (.inr (.inr (.inl ⟨(Mem.lY h).2,(Mem.lY h).1,hk,OV⟩)))
def dJ.live(k:dJ):Prop:=(∀x∈k.cs,x≠none)/\k.kind<=3
structure Wf (m:Mem):Prop where
 aZ:∀b,(m.blk b).aZ<m.tick
 x8:∀b,m.next<=b->(m.blk b).kind=0
 bl:∀s∈m.bl,s.2.1<=m.next
 fl:m.floor<=m.next
 live:∀b,(m.blk b).live
theorem Wf.alloc(h:Wf m)(k:dJ)(hkl:k.live):Wf (m.alloc k):=by
 refine⟨fun b=>?_,fun b hb=>?_,fun s hs=>Nat.le_succ_of_le (h.bl s hs),Nat.le_succ_of_le h.fl,fun b=>?_⟩
 ·rw[Mem.bY]
  split
  ·show m.tick<m.tick+1;omega
  ·have :=h.aZ b;show _<m.tick+1;omega
 ·have iB:m.next+1<=b:=hb;rw[Mem.bY,bS aj];exact h.x8 b aj
 ·rw[Mem.bY]
  split
  ·exact hkl
  ·exact h.live b
theorem Wf.a8(h:Wf m){b:Nat}{k:dJ}(hk:(m.blk b).kind≠0\/k.kind=0)(hkl:k.live):Wf (m.a8 b k):=by
 refine⟨fun b'=>?_,fun b' hb=>?_,h.bl,h.fl,fun b'=>?_⟩
 ·rw[Mem.dE]
  split
  ·show m.tick<m.tick+1;omega
  ·have :=h.aZ b';show _<m.tick+1;omega
 ·rw[Mem.dE]
  split
  ·rename_i e;subst e;rcases hk with hk|hk
   ·exact absurd (h.x8 b hb) hk
   ·exact hk
  ·exact h.x8 b' hb
 ·rw[Mem.dE]
  split
  ·exact hkl
  ·exact h.live b'
def jk (m m':Mem):Prop:=Fr m m'/\m'.deaf=m.deaf/\(Wf m->Wf m')
theorem jk.refl(m:Mem):jk m m:=⟨Fr.refl m,rfl,id⟩
theorem jk.trans(h:jk m m₁)(k:jk m₁ m₂):jk m m₂:=⟨h.1.trans k.1,k.2.1.trans h.2.1,fun x=>k.2.2 (h.2.2 x)⟩
theorem jk.alloc(m:Mem)(k:dJ)(hk:k.live):jk m (m.alloc k):=⟨Fr.alloc m k,rfl,fun h=>h.alloc k hk⟩
theorem jk.dK{b o:Nat}{vs:List ae}(h:m.dK b o vs=some m₁):jk m m₁:=by
 refine⟨Fr.dK h,?_⟩;obtain⟨cs,rfl,hk,JG,CE,_⟩:=Mem.qm h;obtain⟨hl,hg,_⟩:=lU CE;refine⟨rfl,fun hw=>hw.a8 (.inl (by rw[hk];simp)) ⟨fun x hx=>?_,by show(m.blk b).kind<=3;omega⟩⟩;have hx:x∈cs:=hx;obtain⟨i,hi⟩:=List.getElem?_of_mem hx;rw[hg]at hi
 split at hi
 ·rename_i ky;obtain⟨v,hv⟩:∃v,vs[i-o]?=some v:=⟨vs[i-o]'aj,List.getElem?_eq_getElem aj⟩;rw[hv]at hi;simp at hi;rw[<-hi];simp
 ·exact(hw.live b).1 x (List.mem_of_getElem? hi)
theorem jk.own{b:Nat}(h:m.ft b=true):jk m (m.a8 b {}):=⟨Fr.own h,rfl,fun hw=>hw.a8 (.inr rfl) ⟨(by intro x hx;cases hx),Nat.zero_le _⟩⟩
theorem jk.obj{b:Nat}{k:dJ}(h:m.bg b=true)(hk:(m.blk b).kind≠1)(CH:(m.blk b).kind≠0)(OV:k.kind=(m.blk b).kind)(gO:k.cs=(m.blk b).cs):jk m (m.a8 b k):=⟨Fr.obj h hk OV,rfl,fun hw=>hw.a8 (.inl CH) ⟨fun x hx=>(hw.live b).1 x (gO▸hx),by rw[OV];exact(hw.live b).2⟩⟩
variable {P:aD}{v:ae}
theorem No {lB:Array aM}{s x:ae}(h:cK P lB s x m=some (v,m₁)):jk m m₁:=by
 unfold cK at h
 split at h
 ·split at h
  ·split at h
   ·cases h
   ·split at h
    ·cases h
    ·split at h
     ·split at h
      ·simp only[]at h
       split at h
       ·rename_i hk;simp only[ag,beq_iff_eq]at hk
        split at h
        ·simp only[ah,ay]at h;obtain⟨_,rfl⟩:=h;exact(jk.own hk.1.2).trans (jk.alloc _ _ Wo)
        ·cases h
       ·cases h
      ·cases h
     ·split at h
      ·split at h
       ·obtain⟨m2,yF,he⟩:=aC.1 h;simp only[ay]at he;obtain⟨_,rfl⟩:=he;exact jk.dK yF
       ·simp only[ah,ay]at h;obtain⟨_,rfl⟩:=h;exact jk.refl _
       ·cases h
      ·split at h
       ·split at h
        ·simp only[ah,ay]at h;obtain⟨_,rfl⟩:=h;exact jk.alloc _ _ Wo
        ·cases h
       ·cases h
  ·cases h
 ·cases h
theorem VJ {lB:Array aM}{d s:ae}(h:yi P lB d s m=some (v,m₁)):jk m m₁:=by
 unfold yi at h
 split at h
 ·split at h
  ·split at h
   ·obtain⟨_,_,h⟩:=bD.1 h
    split at h
    ·obtain⟨m2,yF,he⟩:=aC.1 h;simp only[ay]at he;obtain⟨_,rfl⟩:=he;exact jk.dK yF
    ·simp only[ah,ay]at h;obtain⟨_,rfl⟩:=h;exact jk.refl _
    ·cases h
   ·cases h
  ·cases h
 ·cases h
theorem Q8 {lB:Array aM}{x:ae}(h:mX P lB x m=some (v,m₁)):jk m m₁:=by
 unfold mX at h
 split at h
 ·split at h
  ·simp only[ah,ay]at h;obtain⟨_,rfl⟩:=h;exact jk.refl _
  ·split at h
   ·simp only[ah,ay]at h;obtain⟨_,rfl⟩:=h;exact jk.refl _
   ·obtain⟨_,_,h⟩:=bD.1 h;obtain⟨m2,yF,he⟩:=aC.1 h;simp only[ay]at he;obtain⟨_,rfl⟩:=he;exact jk.dK yF
  ·cases h
 ·cases h
theorem Kd {s d:aM}{x:ae}(h:fN P s d x m=some (v,m₁)):jk m m₁:=by
 unfold fN at h
 split at h
 ·simp only[]at h
  split at h
  ·split at h
   ·simp only[ah,ay]at h;obtain⟨_,rfl⟩:=h;exact jk.refl _
   ·cases h
  ·cases h
 ·split at h
  ·split at h
   ·cases h
   ·simp only[ah,ay]at h;obtain⟨_,rfl⟩:=h;exact jk.alloc _ _ Wo
  ·cases h
 ·split at h
  ·simp only[ah,ay]at h;obtain⟨_,rfl⟩:=h;exact jk.refl _
  ·obtain⟨_,_,h⟩:=bD.1 h;obtain⟨_,_,h⟩:=aC.1 h;simp only[ay]at h;obtain⟨_,rfl⟩:=h;exact jk.refl _
  ·cases h
 ·cases h
theorem Eo {t:aM}{x k u:ae}(h:jf P t x k u m=some m₁):jk m m₁:=by
 unfold jf at h
 split at h
 ·split at h
  ·simp only[]at h
   split at h
   ·rename_i hc;simp only[ag,beq_iff_eq]at hc;have h1:=hc.1.1;have h2:=hc.1.2
    split at h
    ·simp only[ah]at h;subst h;exact jk.obj h2 aj aj rfl rfl
    ·simp only[ah]at h;subst h;exact jk.obj h2 aj aj rfl rfl
   ·cases h
  ·cases h
 ·unfold tZ at h;simp only[]at h
  split at h
  ·rename_i hr;obtain⟨h1,h2,_⟩:=mI hr
   split at h
   ·split at h
    ·cases h;exact jk.obj h2 aj aj rfl rfl
    ·cases h
   ·cases h
  ·rename_i hr;obtain⟨h1,h2,_⟩:=mI hr;cases h;exact jk.obj h2 aj aj rfl rfl
  ·cases h
 ·cases h
theorem P8 {t:aM}{x:ae}(h:yT P t x m=some (v,m₁)):jk m m₁:=by
 unfold yT at h
 split at h
 ·simp only[ah,ay]at h;obtain⟨_,rfl⟩:=h;exact jk.alloc _ _ Wo
 ·cases h
theorem TS {it:ae}{s:Bool}(h:Fq it s m=some (v,m₁)):jk m m₁:=by
 unfold Fq at h
 split at h
 ·simp only[]at h
  split at h
  ·rename_i hc;simp only[ag,beq_iff_eq]at hc
   split at h
   ·simp only[ah,ay]at h;obtain⟨_,rfl⟩:=h;exact jk.obj hc.2 aj aj rfl rfl
   ·simp only[ah,ay]at h;obtain⟨_,rfl⟩:=h;exact jk.refl _
  ·cases h
 ·cases h
theorem gI {o:Option ae}(h:o.map (fun v=>(v,m))=some (v,m₁)):jk m m₁:=by
 obtain⟨_,_,he⟩:=aC.1 h;simp only[ay]at he;obtain⟨_,rfl⟩:=he;exact jk.refl _
theorem kW {u:ae}(h:some (u,m)=some (v,m₁)):jk m m₁:=by
 simp only[ah,ay]at h;obtain⟨_,rfl⟩:=h;exact jk.refl _
theorem PT {t:aM}{p x:ae}(h:vZ P t p x m=some m₁):jk m m₁:=by
 unfold vZ at h
 split at h
 ·split at h
  ·exact jk.dK h
  ·cases h
 ·cases h
theorem z7 {sz:Nat}{cs:List ae}(h:cE m sz cs=(v,m₁)):jk m m₁:=by
 simp only[cE,ay]at h;obtain⟨_,rfl⟩:=h;exact jk.alloc _ _ Wo
theorem O5 {o:Option Mem}(ho:∀m₂,o=some m₂->jk m m₂)(h:o.map (fun m'=>(undef,m'))=some (v,m₁)):jk m m₁:=by
 obtain⟨m2,hm,he⟩:=aC.1 h;simp only[ay]at he;obtain⟨_,rfl⟩:=he;exact ho _ hm
theorem Du {t:aM}{n:Nat}{ps:List (Nat×ae)}(h:bh P t n ps m=some (v,m₁)):jk m m₁:=by
 unfold bh at h
 split at h
 ·split at h
  ·split at h
   ·cases h
   ·obtain⟨_,_,he⟩:=aC.1 h;simp only[ay]at he;obtain⟨_,rfl⟩:=he;exact jk.alloc _ _ Wo
  ·cases h
 ·cases h
theorem Ep {t:aM}{l c:ae}(h:fT P t l c m=some (v,m₁)):jk m m₁:=by
 unfold fT at h
 split at h
 ·split at h
  ·split at h
   ·simp only[ah,ay]at h;obtain⟨_,rfl⟩:=h;exact jk.alloc _ _ Wo
   ·cases h
  ·cases h
 ·cases h
set_option maxHeartbeats 1000000 in
theorem Tw{ev:bX->ae}{o:gU}(h:dx P ev o m=some (v,m₁)):jk m m₁:=by
 unfold dx at h
 split at h
 ·exact kW h
 ·exact kW h
 ·split at h
  ·exact kW h
  ·cases h
 ·obtain⟨z,hz,he⟩:=aC.1 h;exact z7 he
 ·exact z7 (Option.some.inj h)
 ·exact gI h
 ·exact Du h
 ·exact gI h
 ·exact O5 (fun _ hm=>PT hm) h
 ·split at h
  ·exact kW h
  ·split at h
   ·split at h
    ·exact kW h
    ·cases h
   ·cases h
  ·cases h
 ·split at h
  ·split at h
   ·exact kW h
   ·exact gI h
  ·split at h
   ·exact kW h
   ·exact gI h
  ·exact gI h
 ·exact gI h
 ·split at h
  ·rename_i hr;exact Kd (hr.trans h)
  ·exact gI h
 ·split at h
  ·cases h
  ·exact kW h
  ·cases h
 ·exact kW h
 ·simp only[ah,ay]at h;obtain⟨_,rfl⟩:=h;exact jk.alloc _ _ Wo
 ·exact Ep h
 ·split at h
  ·exact kW h
  ·exact gI h
 ·exact gI h
 ·exact gI h
 ·exact gI h
 ·split at h
  ·exact kW h
  ·exact gI h
 ·exact gI h
 ·exact O5 (fun _ hm=>Eo hm) h
 ·exact gI h
 ·split at h
  ·exact gI h
  ·cases h
 ·exact P8 h
 ·exact TS h
 ·split at h
  ·exact No h
  ·exact VJ h
  ·exact Q8 h
  ·split at h
   ·exact kW h
   ·exact gI h
  ·exact gI h
  ·exact gI h
  ·cases h
 ·cases h
end
end Go.AM
namespace Go.AM
open Go
structure dQ where
 ok:Perm->au->Prop
inductive Sub where
 |opn(V:Nat)|added(V:Nat)|seen(vs:Nat)|reg|Vo|fin
structure GS where
 Wg:Nat
 vD:List dQ
 sub:Sub
inductive nF where
 |Br
 |idle
 |fI(g:GS)
structure aeD (s:AX)(mk:Mem):Prop where
 heap:mk.heap=s.heap
 next:mk.next=s.hi
 opn:mk.opn=s.oO
 bl:mk.bl=s.bl
 home:mk.home=s.lo
 floor:mk.floor=s.lo
 base:mk.base<=s.lo
def postOf (s:AX)(PI:dh):dQ:=
 ⟨fun R w=>∃yH mk,aeD s mk/\(∀b,b<s.lo->yH b=PI b)/\fH yH mk w/\(∀b o,(az yH mk).rd b o->R.rd b o)/\(∀b,(az yH mk).ob b->R.ob b)/\∀b o,(az yH mk).wr b o->R.wr b o⟩
def dJ.alike(k k':dJ):Prop:=k.kind=k'.kind/\k.sz=k'.sz/\k.pos=k'.pos/\k.cs=k'.cs/\(k.kind≠1->k.es=k'.es/\k.clock=k'.clock/\k.str=k'.str)
def Mem.BJ(m:Mem)(h:ji)(s:Span):Prop:=
 ∀b,s.1<=b->b<s.2.1->match s.2.2 with
 |none=>(m.blk b).alike (h.get b)
 |some o=>(m.blk b).kind=1/\(h.get b).kind=1/\(m.blk b).sz=(h.get b).sz/\(m.blk b).pos=(h.get b).pos/\(m.blk b).cs.length=(h.get b).cs.length/\(m.blk b).cs[o]?=(h.get b).cs[o]?
structure SOk (m:Mem)(ρ:dh)(s:AX)(p:dQ):Prop where
 post:∃PI,p=postOf s PI/\∀b,b<s.lo->ρ b=PI b
 none:∀b,s.lo<=b->b<s.hi->ρ b=Option.none
 lo:s.lo<=s.hi
 hi:s.hi<=m.floor
 next:s.hi<=m.next
 same:∀x,x=(s.lo,s.hi,Option.none)\/x∈s.oO->m.BJ s.heap x
 bl:∀x,x=(s.lo,s.hi,Option.none)\/x∈s.oO->x∈m.bl
 below:∀x,x=(s.lo,s.hi,Option.none)\/x∈s.oO->x.2.1<=m.next
 lb:∀x,x∈s.bl\/x∈s.oO->x.2.1<=s.lo
 ap:∀b o,bz s.oO b o=true->bz s.bl b o=false
 lk:∀x,x∈s.oO->∀b,x.1<=b->b<x.2.1->(s.heap.get b).kind<=1
 live:∀b,(s.heap.get b).live
 kk:∀b,b<s.lo->(m.blk b).kind≠0->(s.heap.get b).kind=(m.blk b).kind
 hm:m.home<=s.lo
def GOk (σ:nF)(ρ:dh)(m:Mem):Prop:=
 match σ with
 | .Br=>True
 | .idle=>m.wg=none/\m.pend=[]/\m.home<=m.next
 | .fI g=>g.sub= .opn g.vD.length/\g.vD.length<=4/\(m.home<=m.next/\m.base<=m.next)/\∃wa,m.wg=some wa/\wa<m.next/\wa<m.floor/\(∀p,ρ wa=some p->p.c=g.Wg/\p.d=0)/\bB (SOk m ρ) m.pend g.vD/\(∀x∈m.bl,∃s∈m.pend,x=(s.lo,s.hi,Option.none)\/x∈s.oO)/\m.pend.Pairwise fun s t=>t.hi<=s.lo
section
variable {m m':Mem}{ρ bu:dh}
theorem mS {l:List Span}{s:Span}(h:s∈l){b o:Nat}(h1:s.1<=b)(h2:b<s.2.1)(h3:s.2.2=none\/s.2.2=some o):bz l b o=true:=by
 unfold bz;rw[List.any_eq_true];refine⟨s,h,?_⟩;simp only[ag,jQ];refine⟨⟨h1,h2⟩,?_⟩;rcases h3 with h3|h3<;>rw[h3]<;>simp
theorem ql {l:List Span}{s:Span}(h:s∈l){b:Nat}(h1:s.1<=b)(h2:b<s.2.1):aL l b=true:=by
 unfold aL;rw[List.any_eq_true];exact⟨s,h,by simp[h1,h2]⟩
theorem EJ {l:List Span}{s:Span}(h:s∈l){b:Nat}(h1:s.1<=b)(h2:b<s.2.1)(h3:s.2.2=none):∀o,bz l b o=true:=fun o=>mS h h1 h2 (.inl h3)
theorem mh {l:List Span}{b o:Nat}(h:bz l b o=true):aL l b=true:=by
 rcases ht:aL l b with _|_
 ·rw[dV ht]at h;cases h
 ·rfl
theorem zT (h:Fr m m'){x:Span}(hx:x∈m.bl)(H3:x.2.1<=m.next){hp:ji}(hs:m.BJ hp x):m'.BJ hp x:=by
 intro b h1 h2;have hs:=hs b h1 h2
 split
 ·rename_i hn;simp only[hn]at hs;rcases h.blk b with e|⟨_,ha⟩
  ·rw[e];exact hs
  ·have OM:=ql hx h1 h2;rcases ha with h3|⟨_,h3,_⟩|⟨_,h3,_⟩|⟨_,h3,h4,h5,h6,h7,h8⟩
   ·omega
   ·rw[OM]at h3;cases h3
   ·rw[OM]at h3;cases h3
   ·obtain⟨g1,g2,g3,g4,g5⟩:=hs;refine⟨h4.trans (h3.symm.trans g1),h5.trans g2,h6.trans g3,?_,fun hk=>absurd h4 hk⟩;rw[<-g4];refine List.ext_getElem? fun o=>?_
    by_cases hc:(m'.blk b).cs[o]?=(m.blk b).cs[o]?
    ·exact hc
    ·have :=(h8 o hc).1;rw[EJ hx h1 h2 hn o]at this;cases this
 ·rename_i o ho;simp only[ho]at hs;obtain⟨g1,g2,g3,g4,g5,g6⟩:=hs;rcases h.blk b with e|⟨_,ha⟩
  ·rw[e];exact⟨g1,g2,g3,g4,g5,g6⟩
  ·have OM:=ql hx h1 h2;rcases ha with h3|⟨_,h3,_⟩|⟨_,h3,_⟩|⟨_,h3,h4,h5,h6,h7,h8⟩
   ·omega
   ·rw[OM]at h3;cases h3
   ·rw[OM]at h3;cases h3
   ·refine⟨h4,g2,h5.trans g3,h6.trans g4,h7.trans g5,?_⟩
    by_cases hc:(m'.blk b).cs[o]?=(m.blk b).cs[o]?
    ·rw[hc];exact g6
    ·have :=(h8 o hc).1;rw[mS hx h1 h2 (.inr ho)]at this;cases this
theorem SOk.fr(h:Fr m m')(hle:ρ.le bu)(hold:∀b,b<m.next->bu b=ρ b){s:AX}{p:dQ}(hs:SOk m ρ s p):SOk m' bu s p where
 post:=let⟨PI,e,hb⟩:=hs.post;⟨PI,e,fun b JO=>by rw[hold b (by have :=hs.lo;have :=hs.next;omega)];exact hb b JO⟩
 none b h1 h2:=by rw[hold b (by have :=hs.next;omega)];exact hs.none b h1 h2
 lo:=hs.lo
 hi:=by rw[h.floor];exact hs.hi
 next:=cp hs.next h.next
 same x hx:=zT h (hs.bl x hx) (hs.below x hx) (hs.same x hx)
 bl x hx:=by rw[h.bl];exact hs.bl x hx
 below x hx:=cp (hs.below x hx) h.next
 lb:=hs.lb
 ap:=hs.ap
 lk:=hs.lk
 live:=hs.live
 kk b hb hk:=by
  rcases h.blk b with e|⟨_,ha⟩
  ·rw[e]at hk⊢;exact hs.kk b hb hk
  ·have :=hs.lo;have :=hs.next;rcases ha with h3|⟨_,_,_,h3⟩|⟨_,_,_,h3⟩|⟨_,h3,h4,_⟩
   ·omega
   ·exact absurd h3 hk
   ·rw[h3];exact hs.kk b hb (by rw[<-h3];exact hk)
   ·rw[h4,<-h3];exact hs.kk b hb (by rw[h3];simp)
 hm:=by rw[h.home];exact hs.hm
theorem GOk.fr(h:Fr m m')(hle:ρ.le bu)(hold:∀b,b<m.next->bu b=ρ b){σ:nF}(hg:GOk σ ρ m):GOk σ bu m':=by
 cases σ with
 |Br=>trivial
 |idle=>exact⟨h.wg.trans hg.1,h.pend.trans hg.2.1,by rw[h.home];exact cp hg.2.2 h.next⟩
 |fI g=>
  obtain⟨g1,g2,g0,wa,h1,hw,DU,h2,h3,h4⟩:=hg;refine⟨g1,g2,⟨by rw[h.home];exact cp g0.1 h.next,by rw[h.base];exact cp g0.2 h.next⟩,wa,h.wg.trans h1,aW hw h.next,by rw[h.floor];exact DU,fun p hp=>h2 p ?_,?_,by rw[h.bl,h.pend];exact h4⟩
  ·rw[<-hold wa hw];exact hp
  ·rw[h.pend];exact h3.mono fun s p hs=>hs.fr h hle hold
theorem GOk.above{σ:nF}(hg:GOk σ ρ m)(h:∀b,b<m.floor->bu b=ρ b):GOk σ bu m:=by
 cases σ with
 |Br=>trivial
 |idle=>exact hg
 |fI g=>
  obtain⟨g1,g2,g0,wa,h1,hw,DU,h2,h3,h4⟩:=hg;refine⟨g1,g2,g0,wa,h1,hw,DU,fun p hp=>h2 p (by rw[<-h wa DU];exact hp),h3.mono fun s p hs=>?_,h4⟩;exact⟨let⟨PI,e,hb⟩:=hs.post;⟨PI,e,fun b JO=>by rw[h b (by have :=hs.lo;have :=hs.hi;omega)];exact hb b JO⟩,fun b b1 b2=>by rw[h b (by have :=hs.hi;omega)];exact hs.none b b1 b2,
   hs.lo,hs.hi,hs.next,hs.same,hs.bl,hs.below,hs.lb,hs.ap,hs.lk,hs.live,hs.kk,hs.hm⟩
end
end Go.AM
namespace Go.AM
open Go
abbrev Tm:=N8 (N8 (N8 ae))
def cY (t:Nat)(tm:Tm):ae:=((tm.get (rW t 64)).get (rW t 8)).get (Nat.mod t 8)
def tJ (t:Nat)(v:ae)(tm:Tm):Tm:=
 tm.put (rW t 64) ((tm.get (rW t 64)).put (rW t 8) (((tm.get (rW t 64)).get (rW t 8)).put (Nat.mod t 8) v))
def KO:List ae->ae
 | []=>undef
 |x::_=>x
def ko:List ae->List ae
 | []=>[]
 |_::l=>l
def GC (l:List ae):N8 ae:=
 ⟨KO l,KO (ko l),KO (ko (ko l)),KO (ko (ko (ko l))),KO (ko (ko (ko (ko l)))),KO (ko (ko (ko (ko (ko l))))),KO (ko (ko (ko (ko (ko (ko l)))))),KO (ko (ko (ko (ko (ko (ko (ko l)))))))⟩
def Ry (l:List ae):List ae:=ko (ko (ko (ko (ko (ko (ko (ko l)))))))
def qd:N8 ae:=N8.all undef
def iU:N8 (N8 ae):=N8.all qd
def lN:Tm:=N8.all iU
def Ea (l:List ae):Option Tm:=
 match Ry (Ry l)with
 | []=>some ⟨⟨GC l,GC (Ry l),qd,qd,qd,qd,qd,qd⟩,iU,iU,iU,iU,iU,iU,iU⟩
 |_=>none
def ajn {α:Type}(x:α)(n:N8 α):N8 α:=match n with |⟨_,b,c,d,e,f,g,h⟩=>⟨x,b,c,d,e,f,g,h⟩
def ajm {α:Type}(x:α)(n:N8 α):N8 α:=match n with |⟨a,_,c,d,e,f,g,h⟩=>⟨a,x,c,d,e,f,g,h⟩
def ajl {α:Type}(x:α)(n:N8 α):N8 α:=match n with |⟨a,b,_,d,e,f,g,h⟩=>⟨a,b,x,d,e,f,g,h⟩
def ajk {α:Type}(x:α)(n:N8 α):N8 α:=match n with |⟨a,b,c,_,e,f,g,h⟩=>⟨a,b,c,x,e,f,g,h⟩
def ajj {α:Type}(x:α)(n:N8 α):N8 α:=match n with |⟨a,b,c,d,_,f,g,h⟩=>⟨a,b,c,d,x,f,g,h⟩
def aji {α:Type}(x:α)(n:N8 α):N8 α:=match n with |⟨a,b,c,d,e,_,g,h⟩=>⟨a,b,c,d,e,x,g,h⟩
def ajh {α:Type}(x:α)(n:N8 α):N8 α:=match n with |⟨a,b,c,d,e,f,_,h⟩=>⟨a,b,c,d,e,f,x,h⟩
def ajg {α:Type}(x:α)(n:N8 α):N8 α:=match n with |⟨a,b,c,d,e,f,g,_⟩=>⟨a,b,c,d,e,f,g,x⟩
def SK {α β:Type}(i:Nat)(k:(N8 α->α)->(α->N8 α->N8 α)->Option β):Option β:=
 match i with
 |0=>k N8.a ajn
 |1=>k N8.b ajm
 |2=>k N8.c ajl
 |3=>k N8.d ajk
 |4=>k N8.e ajj
 |5=>k N8.f aji
 |6=>k N8.g ajh
 |7=>k N8.h ajg
 |_=>none
abbrev kC:=Tm->ae
abbrev Put:=ae->Tm->Tm
def alF (f:Tm->N8 (N8 ae))(g:N8 (N8 ae)->N8 ae)(h:N8 ae->ae):kC:=fun tm=>h (g (f tm))
def ajO (f:Tm->N8 (N8 ae))(g:N8 (N8 ae)->N8 ae)(F:N8 (N8 ae)->Tm->Tm)(G:N8 ae->N8 (N8 ae)->N8 (N8 ae))(H:ae->N8 ae->N8 ae):Put:=
 fun v tm=>F (G (H v (g (f tm))) (f tm)) tm
def Gq {β:Type}(t:Nat)(k:kC->Put->Option β):Option β:=
 SK (Nat.div t 64) fun f F=>SK (rW t 8) fun g G=>SK (Nat.mod t 8) fun h H=>k (alF f g h) (ajO f g F G H)
def M0 (v:ae):kC:=fun _=>v
def du (tm:Tm)(x:bX):ae:=
 match x with
 | .tmp t=>cY t tm
 | .const v=>v
 | .global g=>ptrTo g 0
 | .func f=> .func (.func f) #[] #[]
def eG {α:Type}(x:bX)(k:kC->Option α):Option α:=
 match x with
 | .tmp t=>Gq t fun o _=>k o
 | .const v=>k (M0 v)
 | .global g=>k (M0 (ptrTo g 0))
 | .func f=>k (M0 (.func (.func f) #[] #[]))
def sX {α:Type}:List bX->(List kC->Option α)->Option α
 | [],k=>k []
 |x::l,k=>eG x fun o=>sX l fun os=>k (o::os)
def rI (nt ng:Nat)(x:bX):Bool:=
 match x with
 | .tmp t=>Nat.blt t nt
 | .const v=>plain v
 | .global g=>Nat.blt g ng
 | .func _=>true
abbrev Df:=List (Nat×List ae)
structure Ss where
 tm:Tm
 mem:Mem
 df:Df
abbrev Rs:=Option Ss
abbrev Kv:=ae->Mem->Df->Rs
abbrev lO:=cB->Tm->Mem->Df->Kv->Rs
abbrev iE:=cB->Tm->Mem->Df->Rs
abbrev F:=cB->Ss->Option (Exit×Ss)
def jC (P:aD)(o:gU):lO:=fun _ tm m df k=>
 match dx P (du tm) o m with
 |some (v,m')=>k v m' df
 |none=>none
def TZ (x:kC):lO:=fun _ tm m df k=>k (x tm) m df
def amN (r:Option ae)(m:Mem)(df:Df)(k:Kv):Rs:=
 match r with
 |some v=>k v m df
 |none=>none
def amM (r:Option Mem)(df:Df)(k:Kv):Rs:=
 match r with
 |some m=>k undef m df
 |none=>none
def KV:List kC->Tm->List ae
 | [],_=>[]
 |x::l,tm=>x tm::KV l tm
def Kn (r:Option (ae×Mem))(df:Df)(k:Kv):Rs:=
 match r with
 |some (v,m')=>k v m' df
 |none=>none
def VT (f:Nat)(xs:List kC):lO:=fun call tm m df k=>Kn (call f (KV xs tm) m) df k
def Kl (x:kC)(xs:List kC):lO:=fun call tm m df k=>
 match x tm with
 | .func (.func f) first cap=>Kn (call f (first.toList++KV xs tm++cap.toList) m) df k
 |_=>none
def Pq (P:aD)(r:kC)(name:String)(xs:List kC):lO:=fun call tm m df k=>
 match dR P (r tm) name with
 |some (f,recv)=>Kn (call f (recv::KV xs tm) m) df k
 |none=>none
def HE (x:kC)(xs:List kC):lO:=fun _ tm m df k=>
 match x tm with
 | .func (.func f) first cap=>k undef m ((f,first.toList++KV xs tm++cap.toList)::df)
 |_=>none
def gB:Int->Int->Bool
 | .ofNat a,.ofNat b=>Nat.blt a b
 | .ofNat _,.negSucc _=>false
 | .negSucc _,.ofNat _=>true
 | .negSucc a,.negSucc b=>Nat.blt b a
def Yu (a b:Int):Bool:=!gB b a
def qE (a b:Int):Bool:=gB b a
def EE (a b:Int):Bool:=!gB a b
def dd:Int->Int->Bool
 | .ofNat a,.ofNat b=>Nat.beq a b
 | .negSucc a,.negSucc b=>Nat.beq a b
 |_,_=>false
def tB (a b:Int):Bool:=!dd a b
def V7:Int->Int->Option Nat
 | .ofNat a,.ofNat b=>some (Nat.add a b)
 |_,_=>none
def SA:Int->Int->Option Nat
 | .ofNat a,.ofNat b=>if Nat.ble b a then some (Nat.sub a b)else none
 |_,_=>none
def noQ (_ _:Int):Option Nat:=none
def iN:cf->Nat
 | .i8=>128
 | .i16=>32768
 | .i32=>2147483648
 | .i64=>9223372036854775808
 | .u8=>256
 | .u16=>65536
 | .u32=>4294967296
 | .u64=>18446744073709551616
def xC:cf->Nat
 | .i8=>0
 | .i16=>1
 | .i32=>2
 | .i64=>3
 | .u8=>4
 | .u16=>5
 | .u32=>6
 | .u64=>7
def EK (f:Int->Int->Bool)(x y:kC):lO:=fun _ tm m df k=>
 match x tm with
 | .int a i=>match y tm with
  | .int b j=>if Nat.beq (xC a) (xC b)then k (.bool (f i j)) m df else none
  |_=>none
 |_=>none
def arF (q:Int->Int->Option Nat)(f:Int->Int->Int)(x y:kC):lO:=fun _ tm m df k=>
 match x tm with
 | .int a i=>match y tm with
  | .int b j=>if Nat.beq (xC a) (xC b)then
    match q i j with
    |some n=>if Nat.blt n (iN a)then k (.int a (.ofNat n)) m df else k (.int a (a.wrap (f i j))) m df
    |none=>k (.int a (a.wrap (f i j))) m df
   else none
  |_=>none
 |_=>none
def yN (want:Bool)(x y:kC):lO:=fun _ tm m df k=>
 match x tm with
 | .string a=>match y tm with
  | .string b=>k (.bool ((a.toList==b.toList)==want)) m df
  |_=>none
 |_=>none
def Nc (x y:kC):lO:=fun _ tm m df k=>
 match x tm with
 | .string a=>match y tm with
  | .string b=>if Nat.blt (a.size+b.size) 9223372036854775808 then k (.string (a++b)) m df else none
  |_=>none
 |_=>none
def Av (P:aD)(o:gU)(q:Nat->Nat->Nat)(x y:kC):lO:=fun call tm m df k=>
 match x tm with
 | .int a (.ofNat i)=>match y tm with
  | .int b (.ofNat j)=>if Nat.beq (xC a) (xC b)&&Nat.blt i (iN a)&&Nat.blt j (iN a)then k (.int a (.ofNat (q i j))) m df else jC P o call tm m df k
  |_=>none
 |_=>jC P o call tm m df k
def Hw (P:aD)(o:gU)(q:Nat->Nat->Nat)(x y:kC):lO:=fun call tm m df k=>
 match x tm with
 | .int a (.ofNat i)=>match y tm with
  | .int b (.ofNat (j+1))=>if Nat.beq (xC a) (xC b)&&Nat.blt i (iN a)then k (.int a (.ofNat (q i (Nat.succ j)))) m df else jC P o call tm m df k
  |_=>jC P o call tm m df k
 |_=>jC P o call tm m df k
def V0 (P:aD)(o:gU)(op:BinOp)(t:aM)(x y:kC):Option lO:=
 match P.underlying t with
 |some (.int _)=>match op with
  | .lss=>some (EK gB x y)
  | .leq=>some (EK Yu x y)
  | .gtr=>some (EK qE x y)
  | .geq=>some (EK EE x y)
  | .eql=>some (EK dd x y)
  | .neq=>some (EK tB x y)
  | .add=>some (arF V7 Int.add x y)
  | .sub=>some (arF SA Int.sub x y)
  | .mul=>some (arF noQ Int.mul x y)
  | .or=>some (Av P o Nat.lor x y)
  | .and=>some (Av P o Nat.land x y)
  | .xor=>some (Av P o Nat.xor x y)
  | .quo=>some (Hw P o Nat.div x y)
  | .rem=>some (Hw P o Nat.mod x y)
  |_=>some (jC P o)
 |some .string=>match op with
  | .eql=>some (yN true x y)
  | .neq=>some (yN false x y)
  | .add=>some (Nc x y)
  |_=>some (jC P o)
 |_=>some (jC P o)
def IZ (c x y:kC):lO:=fun _ tm m df k=>
 match c tm with
 | .bool true=>k (x tm) m df
 | .bool false=>k (y tm) m df
 |_=>none
def AJ (p:ae)(k:Nat->Nat->Rs):Rs:=
 match p with
 | .pointer (some ⟨b,o,none⟩)=>k b o
 |_=>none
def J8 {α:Type}:Nat->List α->List α
 |0,l=>l
 |1,l=>match l with |_::t=>t|_=>[]
 |2,l=>match l with |_::_::t=>t|_=>[]
 |3,l=>match l with |_::_::_::t=>t|_=>[]
 |4,l=>match l with |_::_::_::_::t=>t|_=>[]
 |5,l=>match l with |_::_::_::_::_::t=>t|_=>[]
 |6,l=>match l with |_::_::_::_::_::_::t=>t|_=>[]
 |7,l=>match l with |_::_::_::_::_::_::_::t=>t|_=>[]
 |n+8,l=>match l with |_::_::_::_::_::_::_::_::t=>J8 n t|_=>[]
def OY (m:Mem)(b o n:Nat):Bool:=
 match m.bl with
 | []=>true
 |l=>!meets l b o n
def Ad (m:Mem)(b o:Nat)(k:ae->Rs):Rs:=
 match m.blk b with
 |⟨1,_,cs,_,_,_,_,_⟩=>if OY m b o 1 then
   match J8 o cs with
   |some v::_=>k v
   |_=>none
  else none
 |_=>none
def L9 (x:kC):lO:=fun _ tm m df k=>AJ (x tm) fun b o=>Ad m b o fun v=>k v m df
def aen (l:Option (List ae))(k:ae->Rs):Rs:=
 match l with
 |some l=>k (.agg l.toArray)
 |none=>none
def L8 (n:Nat)(x:kC):lO:=fun _ tm m df k=>AJ (x tm) fun b o=>aen (m.dB b o n) fun v=>k v m df
def Jm (P:aD)(o:gU)(t:aM)(x:kC):Option lO:=
 match yv P t with
 |some true=>match ep P t with
  |some n=>some (L8 n x)
  |none=>some (jC P o)
 |some false=>some (L9 x)
 |none=>some (jC P o)
def ag5 (r:Option Mem)(k:Mem->Rs):Rs:=
 match r with
 |some m=>k m
 |none=>none
def v7:Nat->List (Option ae)->ae->Option (List (Option ae))
 |0,l,v=>match l with |some _::t=>some (some v::t)|_=>none
 |1,l,v=>match l with |a::some _::t=>some (a::some v::t)|_=>none
 |2,l,v=>match l with |a::b::some _::t=>some (a::b::some v::t)|_=>none
 |3,l,v=>match l with |a::b::c::some _::t=>some (a::b::c::some v::t)|_=>none
 |4,l,v=>match l with |a::b::c::d::some _::t=>some (a::b::c::d::some v::t)|_=>none
 |5,l,v=>match l with |a::b::c::d::e::some _::t=>some (a::b::c::d::e::some v::t)|_=>none
 |6,l,v=>match l with |a::b::c::d::e::f::some _::t=>some (a::b::c::d::e::f::some v::t)|_=>none
 |7,l,v=>match l with |a::b::c::d::e::f::g::some _::t=>some (a::b::c::d::e::f::g::some v::t)|_=>none
 |n+8,l,v=>match l with
  |a::b::c::d::e::f::g::h::t=>match v7 n t v with
   |some t'=>some (a::b::c::d::e::f::g::h::t')
   |none=>none
  |_=>none
def Qs (m:Mem)(b o:Nat):Bool:=
 match Nat.ble m.floor b,m.bl with
 |true,[]=>Nat.ble m.base b
 |_,_=>m.cS b o 1
def BF (m:Mem)(b o:Nat)(v:ae)(k:Mem->Rs):Rs:=
 match m.blk b with
 |⟨1,sz,cs,es,c,str,pos,_⟩=>if Qs m b o then
   match v7 o cs v with
   |some gQ=>k {m with heap:=m.heap.put b ⟨1,sz,gQ,es,c,str,pos,m.tick⟩,tick:=Nat.succ m.tick}
   |none=>none
  else none
 |_=>none
def kI (v:ae):Bool:=
 match v with
 | .agg _=>false
 | .tuple _=>false
 |_=>true
def AZ (n:Nat)(p x:kC):lO:=fun _ tm m df k=>AJ (p tm) fun b o=>match x tm with
  | .agg cs=>if Nat.beq n cs.size then ag5 (m.dK b o cs.toList) fun m'=>k undef m' df else none
  |v=>if Nat.beq n 1 then(if kI v then BF m b o v fun m'=>k undef m' df else none)else none
def BC (P:aD)(o:gU)(t:aM)(p x:kC):Option lO:=
 match ep P t with
 |some n=>some (AZ n p x)
 |none=>some (jC P o)
def Ns (d:Nat)(p:kC):lO:=fun _ tm m df k=>AJ (p tm) fun b o=>k (ptrTo b (Nat.add o d)) m df
def pT (P:aD)(o:gU)(s:aM)(p:kC)(f:Nat):Option lO:=
 match P.underlying s with
 |some (.struct fields)=>match fields[f]? with
  |some fd=>match ep P fd.type with
   |some (_+1)=>some (Ns fd.offset p)
   |_=>some (jC P o)
  |none=>some (jC P o)
 |_=>some (jC P o)
def Qo (v:ae)(len:Nat)(k:Nat->Rs):Rs:=
 match v with
 | .int _ (.ofNat n)=>if Nat.blt n len then k n else none
 |_=>none
def Ha (s:Nat)(x i:kC):lO:=fun _ tm m df k=>match x tm with
 | .slice (some ⟨b,o,none⟩) len _=>Qo (i tm) len fun n=>k (ptrTo b (Nat.add o (Nat.mul n s))) m df
 |_=>none
def Hc (len s:Nat)(x i:kC):lO:=fun _ tm m df k=>AJ (x tm) fun b o=>Qo (i tm) len fun n=>k (ptrTo b (Nat.add o (Nat.mul n s))) m df
def pL (P:aD)(o:gU)(t:aM)(x i:kC):Option lO:=
 match P.underlying t with
 |some (.slice e)=>match ep P e with
  |some s=>some (Ha s x i)
  |none=>some (jC P o)
 |some (.array len e)=>match ep P e with
  |some s=>some (Hc len s x i)
  |none=>some (jC P o)
 |_=>some (jC P o)
def wI:List UInt8->Nat->Option UInt8
 | [],_=>none
 |b::_,0=>some b
 |_::l,i+1=>wI l i
def VV (x i:kC):lO:=fun _ tm m df k=>match x tm with
  | .string s=>match i tm with
   | .int _ (.ofNat n)=>match wI s.data.toList n with
    |some b=>k (.int .u8 (.ofNat b.toNat)) m df
    |none=>none
   |_=>none
  |_=>none
def CA (P:aD)(o:gU)(t:aM)(x i:kC):Option lO:=
 match P.underlying t with
 |some .string=>some (VV x i)
 |_=>some (jC P o)
def Md (x:kC):lO:=fun _ tm m df k=>match x tm with
  | .string s=>k (.int .i64 (.ofNat s.size)) m df
  |_=>none
def Um (x:kC):lO:=fun _ tm m df k=>match x tm with
  | .slice _ n _=>k (.int .i64 (.ofNat n)) m df
  |_=>none
def Un (P:aD)(o:gU)(t:aM)(x:kC):Option lO:=
 match P.underlying t with
 |some .string=>some (Md x)
 |some (.slice _)=>some (Um x)
 |_=>some (jC P o)
def x9 (x:kC)(i:Nat):lO:=fun _ tm m df k=>
 match x tm with
 | .tuple vs=>match vs.toList[i]? with
  |some v=>k v m df
  |none=>none
 |_=>none
def L2 (P:aD)(o:gU)(oe:Bool)(x y:kC):lO:=fun call tm m df k=>
 match x tm with
 | .int a i=>match y tm with
  | .int b j=>k (.int a (if gB j i then(if oe then i else j)else(if oe then j else i))) m df
  |_=>none
 |_=>jC P o call tm m df k
def Yf (x:kC):lO:=fun _ tm m df k=>
 match x tm with
 | .bool b=>k (.bool (!b)) m df
 |_=>none
def TR (P:aD)(o:gU)(x:kC):lO:=fun call tm m df k=>
 match x tm with
 | .pointer (some a)=>k (.pointer (some a)) m df
 |_=>jC P o call tm m df k
def V4 (cs:List (Option ae))(m:Mem)(df:Df)(k:Kv):Rs:=
 k (ptrTo m.next 0) {m with heap:=m.heap.put m.next ⟨1,0,cs,#[],0,.empty,1,m.tick⟩,tick:=Nat.succ m.tick,next:=Nat.succ m.next} df
def V5 (cs:List (Option ae)):lO:=fun _ tm m df k=>V4 cs m df k
def aiL (x:kC):lO:=fun _ tm m df k=>V4 ((x tm).cells.toList.map some) m df k
def ij (P:aD)(o:gU):Option lO:=
 match o.op with
 | .move x=>eG x fun x=>some (TZ x)
 | .assign x=>eG x fun x=>some (TZ x)
 | .pick c x y=>eG c fun c=>eG x fun x=>eG y fun y=>some (IZ c x y)
 | .binOp op t x y _=>eG x fun x=>eG y fun y=>V0 P o op t x y
 | .load t x=>eG x fun x=>Jm P o t x
 | .store t p x=>eG p fun p=>eG x fun x=>BC P o t p x
 | .fieldAddr s p f=>eG p fun p=>pT P o s p f
 | .indexAddr t x i=>eG x fun x=>eG i fun i=>pL P o t x i
 | .index t x i=>eG x fun x=>eG i fun i=>CA P o t x i
 | .extract x i=>eG x fun x=>some (x9 x i)
 | .unOp .not _ x=>eG x fun x=>some (Yf x)
 | .nilCheck x=>eG x fun x=>some (TR P o x)
 | .alloc e=>match gL P e with
  |some z=>some (V5 (z.cells.toList.map some))
  |none=>none
 | .box _ x=>eG x fun x=>some (aiL x)
 | .call {callee:= .builtin .min,args,.. }=>match args.toList with
  | [x,y]=>eG x fun x=>eG y fun y=>some (L2 P o false x y)
  |_=>some (jC P o)
 | .call {callee:= .builtin .max,args,.. }=>match args.toList with
  | [x,y]=>eG x fun x=>eG y fun y=>some (L2 P o true x y)
  |_=>some (jC P o)
 | .call {callee:= .value (.func f),args,.. }=>sX args.toList fun xs=>some (VT f xs)
 | .call {callee:= .value x,args,.. }=>eG x fun x=>sX args.toList fun xs=>some (Kl x xs)
 | .call {callee:= .invoke r name,args,.. }=>eG r fun r=>sX args.toList fun xs=>some (Pq P r name xs)
 | .call {callee:= .builtin .len,args,argTypes}=>match args.toList,argTypes.toList with
  | [x],t::_=>eG x fun x=>Un P o t x
  |_,_=>some (jC P o)
 | .defer {callee:= .value x,args,.. }=>eG x fun x=>sX args.toList fun xs=>some (HE x xs)
 |_=>some (jC P o)
def X7 (p:Put)(rest:iE)(call:cB)(tm:Tm):Kv:=fun v m df=>rest call (p v tm) m df
def noK (rest:iE)(call:cB)(tm:Tm):Kv:=fun v m df=>rest call tm m df
def NM (p:Put)(op:lO)(rest:iE):iE:=fun call tm m df=>op call tm m df (X7 p rest call tm)
def Iu (op:lO)(rest:iE):iE:=fun call tm m df=>op call tm m df (noK rest call tm)
def Hn (g:kC)(want:Bool)(p:Put)(op:lO)(rest:iE):iE:=fun call tm m df=>
 match g tm with
 | .bool true=>if want then op call tm m df (X7 p rest call tm)else rest call (p undef tm) m df
 | .bool false=>if want then rest call (p undef tm) m df else op call tm m df (X7 p rest call tm)
 |_=>rest call (p undef tm) m df
def Hm (g:kC)(want:Bool)(op:lO)(rest:iE):iE:=fun call tm m df=>
 match g tm with
 | .bool true=>if want then op call tm m df (noK rest call tm)else rest call tm m df
 | .bool false=>if want then rest call tm m df else op call tm m df (noK rest call tm)
 |_=>rest call tm m df
def Zp:iE:=fun _ tm m df=>some ⟨tm,m,df⟩
def Ty (P:aD)(nt:Nat)(ops:Array gU)(i:Nat)(rest:iE):Option iE:=
 match ops[i]? with
 |none=>none
 |some o=>if o.op.operands.toList.all (rI nt P.globals.size)then
  match ij P o with
  |none=>none
  |some op=>match o.guard with
   |none=>match o.dst with
    |some d=>Gq d fun _ p=>some (NM p op rest)
    |none=>some (Iu op rest)
   |some (j,want)=>match(ops[j]?).bind (·.dst)with
    |some g=>if Nat.blt g nt then Gq g fun gx _=>match o.dst with
     |some d=>Gq d fun _ p=>some (Hn gx want p op rest)
     |none=>some (Hm gx want op rest)
     else none
    |none=>none
  else none
def mY (v:ae):Option Nat:=
 match v with
 | .pointer (some a)=>some a.block
 | .slice (some a) _ _=>some a.block
 | .map (some r)=>some r
 |_=>none
def mC (o:gU):Option bX:=
 match o.op with
 | .load _ x=>some x
 | .lookup _ x _ _=>some x
 | .slice _ x _ _ _=>some x
 |_=>o.dst.map .tmp
def cP (ops:Array gU)(o:gU)(tm:Tm):Bool:=
 match o.guard with
 |none=>true
 |some (j,want)=>match(ops[j]?).bind (·.dst)with
  |some g=>match cY g tm with
   | .bool b=>b==want
   |_=>false
  |none=>false
def jB (m:Mem)(v:ae):ae:=
 match mY v with
 |some b=> .int .i64 (.ofNat (m.blk b).aZ)
 |none=> .nilFunc
def SN (ops:Array gU)(o:gU)(x:bX)(slot:Nat)(rest:iE):iE:=fun call tm m df=>
 rest call (tJ slot (if cP ops o tm then jB m (du tm x)else undef) tm) m df
def xx (a b:ae):Bool:=
 match a,b with
 | .int _ (.ofNat i),.int _ (.ofNat j)=>Nat.beq i j
 | .nilFunc,.nilFunc=>true
 |_,_=>false
def looks (o:gU):Bool:=
 match o.op with
 | .load .. =>true
 | .lookup .. =>true
 | .slice .. =>true
 |_=>false
def sI (P:aD)(ops:Array gU)(o:gU)(x:bX)(slot:Nat)(rest:iE):iE:=fun call tm m df=>
 if cP ops o tm then
  if xx (cY slot tm) (jB m (du tm x))&&(if looks o then(dx P (du tm) o m).isSome else match mY (du tm x)with |some b=>Nat.ble m.floor b|none=>true)then rest call tm m df else none
 else rest call tm m df
abbrev ni:=Nat×Nat×Nat
def N5 (f:iE):iE:=fun call tm m df=>match m.pend with
 | []=>f call tm m df
 |_=>none
def zO (P:aD)(nt:Nat)(ops:Array gU)(t:ni)(rest:iE):Option iE:=
 match t with
 |(0,i,slot)=>match Ty P nt ops i rest with
  |some f=>some (match slot with |0=>f|_=>N5 f)
  |none=>none
 |(1,i,slot)=>match ops[i]? with
  |some o=>match mC o with
   |some x=>if rI nt P.globals.size x&&Nat.ble nt slot&&Nat.blt slot 512 then some (SN ops o x slot rest)else none
   |none=>none
  |none=>none
 |(_,i,slot)=>match ops[i]? with
  |some o=>match mC o with
   |some x=>some (sI P ops o x slot rest)
   |none=>none
  |none=>none
def iw (P:aD)(nt:Nat)(ops:Array gU):List ni->Option iE
 | []=>some Zp
 |t::l=>match iw P nt ops l with
  |some rest=>zO P nt ops t rest
  |none=>none
def oG (a b:F):F:=fun call st=>
 match a call st with
 |some (.normal,jX)=>b call jX
 |r=>r
def xr:F:=fun _ st=>some (.normal,st)
def VK (x:kC)(a b:F):F:=fun call st=>
 match x st.tm with
 | .bool true=>a call st
 | .bool false=>b call st
 |_=>none
def HR (id:Nat)(a:F):F:=fun call st=>
 match a call st with
 |some (.exit j,jX)=>if Nat.beq j id then some (.normal,jX)else some (.exit j,jX)
 |r=>r
def xK (a:F)(call:cB):Nat->Ss->Option (Exit×Ss)
 |0,_=>none
 |n+1,st=>match a call st with
  |some (.normal,jX)=>xK a call n jX
  |r=>r
def aar (a:F):F:=fun call st=>xK a call 100000 st
def FT (e:Exit):F:=fun _ st=>some (e,st)
def P6 (o:iE):F:=fun call st=>
 match o call st.tm st.mem st.df with
 |some jX=>some (.normal,jX)
 |none=>none
def yR (has:Nat->Bool)(rest:Nat->Option F)(call:cB):Nat->F->Ss->Option (Exit×Ss)
 |0,_,_=>none
 |n+1,a,st=>match a call st with
  |some (.goto l,jX)=>if has l then match rest l with
   |some b=>yR has rest call n b jX
   |none=>none
   else some (.goto l,jX)
  |r=>r
def ie (ops:Array gU)(bI:Array Nat)(hs:List Nat)(i:Nat):Bool:=
 Nat.blt (cO bI hs i) (rh bI hs i)&&((ops[i]?).any fun o=>match o.op with
  | .load .. | .lookup .. | .slice .. | .alloc _| .box .. | .buildSlice .. | .makeSlice .. | .makeMap .. =>true
  |_=>false)
def GO (ops:Array gU)(bI:Array Nat)(nt:Nat):Bool:=
 (List.range ops.size).all fun i=>match ops[i]? with
  |some o=>o.after.toList.all (fun e=>!Region.binds .any e||Nat.blt e.on i)&&Nat.beq (o.after.toList.foldl (fun s e=>if Region.binds .any e then s|||2^e.on|||bI.getD e.on 0 else s) 0) (bI.getD i 0)&&(match o.dst with |some d=>Nat.blt d nt|none=>true)
  |none=>false
def steady (ops:Array gU)(bI:Array Nat)(hs:List Nat):Bool:=
 (List.range ops.size).all fun i=>!ie ops bI hs i||(match ops[i]? with
  |some o=>(List.range ops.size).all fun j=>match ops[j]? with
   |some y=>(match y.dst with |some d=> !(kF ops o).contains d||(bI.getD i 0).testBit j|none=>true)
   |none=>true
  |none=>false)
def fY (ops:Array gU)(bI:Array Nat)(hs:List Nat)(s:Nat):List Nat:=(List.range ops.size).filter fun i=>(ops[i]?).any fh&&cO bI hs i==s
def Gx (ops:Array gU)(bI:Array Nat)(hs:List Nat)(nt s:Nat):List ni:=
 (fY ops bI hs s).flatMap fun i=>if ie ops bI hs i then[(0,i,0),(1,i,nt+i)]else[(0,i,0)]
def vb (ops:Array gU)(bI:Array Nat)(hs:List Nat)(nt s:Nat):List ni:=
 ((List.range ops.size).filter fun i=>(ops[i]?).any fh&&ie ops bI hs i&&decide (cO bI hs i<=s)&&decide (s<rh bI hs i)).map fun i=>(2,i,nt+i)
def nu (ops:Array gU)(bI:Array Nat)(hs:List Nat)(nt:Nat):Nat->List Nat->List ni
 |s,[]=>Gx ops bI hs nt s
 |s,h::l=>Gx ops bI hs nt s++(0,h,1)::(vb ops bI hs nt s++nu ops bI hs nt (s+1) l)
def VG (ops:Array gU)(nt:Nat):Option (List ni):=
 let bI:=Region.before ops
 let hs:=aE ops
 if yk bI hs&&tidy ops bI&&GO ops bI nt&&steady ops bI hs then some (nu ops bI hs nt 0 hs)else none
def comp (P:aD)(nt:Nat):Nat->Code->Option F
 |0,_=>none
 |n+1,c=>match c with
  | .skip=>some xr
  | .label _=>some xr
  | .seq a b=>match comp P nt n a with
   |some a=>match comp P nt n b with
    |some b=>some (oG a b)
    |none=>none
   |none=>none
  | .cond x a b=>if rI nt P.globals.size x then
   match comp P nt n a with
   |some a=>match comp P nt n b with
    |some b=>eG x fun x=>some (VK x a b)
    |none=>none
   |none=>none
   else none
  | .block id b=>match comp P nt n b with
   |some b=>some (HR id b)
   |none=>none
  | .loop b=>match comp P nt n b with
   |some b=>some (aar b)
   |none=>none
  | .exit id=>some (FT (.exit id))
  | .ret=>some (FT .ret)
  | .goto l=>some (FT (.goto l))
  | .scope b=>match comp P nt n b with
   |some f=>some fun call st=>yR (fun l=>(findLabel b l).isSome) (fun l=>(findLabel b l).bind (comp P nt n)) call 1000 f st
   |none=>none
  | .region _ ops draw=>if draw then
    match VG ops nt with
    |some l=>match iw P nt ops l with
     |some o=>some (P6 o)
     |none=>none
    |none=>none
   else match iw P nt ops ((List.range ops.size).map fun i=>(0,i,0))with
   |some o=>some (P6 o)
   |none=>none
  |_=>none
def vj (P:aD)(nt:Nat)(m:Mem)(tm:Tm):List ResultVar->Option (List ae)
 | []=>some []
 | .tmp t::l=>if Nat.blt t nt then
   match vj P nt m tm l with
   |some vs=>some (cY t tm::vs)
   |none=>none
  else none
 | .cell a t::l=>if Nat.blt a nt then
   match j9 P t (cY a tm) m,vj P nt m tm l with
   |some v,some vs=>some (v::vs)
   |_,_=>none
  else none
def lS (P:aD)(nt:Nat)(rs:List ResultVar)(tm:Tm)(m:Mem):Option ae:=
 match vj P nt m tm rs with
 |some [v]=>some v
 |some vs=>some (.tuple vs.toArray)
 |none=>none
def dM (P:aD)(f:Nat):Bool:=(P.funcs[f]?).any (·.body.isSome)
def oS (P:aD)(X:Ext)(call:cB):Df->Mem->Option Mem
 | [],m=>some m
 |(f,args)::ds,m=>if dM P f&& !(Nat.beq f X.K'||Nat.beq f X.vR)then
   match call f args m with
   |some (_,m')=>oS P X call ds m'
   |none=>none
  else none
def Pb (r:Option (Exit×Ss)):Option Ss:=
 match r with
 |some (.normal,st)=>some st
 |some (.ret,st)=>some st
 |_=>none
def yp (P:aD)(X:Ext)(nt:Nat)(rs:List ResultVar)(b:F)(call:cB)(args:List ae)(m:Mem):Option (ae×Mem):=
 match(if Nat.ble args.length nt then Ea args else none)with
 |none=>none
 |some tm=>
  match Pb (b call ⟨tm,m,[]⟩)with
  |none=>none
  |some st=>match oS P X call st.df st.mem with
   |none=>none
   |some m'=>match lS P nt rs st.tm m' with
    |some v=>some (v,m')
    |none=>none
structure Tab where
 body:cB->List ae->Mem->Option (ae×Mem)
def j8 (P:aD)(X:Ext)(f:Nat):Tab:=
 match P.funcs[f]? with
 |some fn=>match fn.body with
  |some c=>match(if Nat.ble fn.ntmps 512 then comp P fn.ntmps 1000 c else none)with
   |some b=>⟨yp P X fn.ntmps fn.results.toList b⟩
   |none=>⟨fun _ _ _=>none⟩
  |none=>⟨fun _ args m=>uz X f args m⟩
 |none=>⟨fun _ _ _=>none⟩
def mA (P:aD)(X:Ext):Nat->cB
 |0=>fun _ _ _=>none
 |n+1=>fun f args m=>(j8 P X f).body (mA P X n) args m
end Go.AM
namespace Go.AM
open Go
theorem yQ {α β:Type}{i:Nat}{k:(N8 α->α)->(α->N8 α->N8 α)->Option β}{r:β}(h:SK i k=some r):
  i<8/\k (fun n=>n.get i) (fun x n=>n.put i x)=some r:=by
 unfold SK at h
 split at h<;>first |exact⟨aj,h⟩|cases h
theorem ju {β:Type}{t:Nat}{k:kC->Put->Option β}{r:β}(h:Gq t k=some r):t<512/\k (cY t) (tJ t)=some r:=by
 unfold Gq at h;obtain⟨h1,h⟩:=yQ h;obtain⟨h2,h⟩:=yQ h;obtain⟨h3,h⟩:=yQ h;have JS:t / 64<8:=h1;have e:Nat.div t 64=rW t 64:=by show t / 64=t / 64%8;omega
 rw[e]at h;exact⟨aj,h⟩
theorem o0 {t t':Nat}(ht:t<512)(ht':t'<512)(v:ae)(tm:Tm):cY t' (tJ t v tm)=if t=t' then v else cY t' tm:=by
 have d (x k:Nat):rW x k=x / k%8:=rfl;have e (x:Nat):Nat.mod x 8=x%8:=rfl;have l (x k:Nat):rW x k<8:=by rw[d];omega
 have l' (x:Nat):Nat.mod x 8<8:=by rw[e];omega
 unfold cY tJ;rw[N8.get_put _ _ (l ..) (l ..)]
 by_cases h1:rW t 64=rW t' 64
 ·rw[bC h1,N8.get_put _ _ (l ..) (l ..)]
  by_cases h2:rW t 8=rW t' 8
  ·rw[bC h2,N8.get_put _ _ (l' ..) (l' ..)]
   by_cases h3:Nat.mod t 8=Nat.mod t' 8
   ·rw[bC h3,bC (by simp only[d,e]at h1 h2 h3;omega)]
   ·rw[bS h3,bS (by rintro rfl;exact h3 rfl),h1,h2]
  ·rw[bS h2,bS (by rintro rfl;exact h2 rfl),h1]
 ·rw[bS h1,bS (by rintro rfl;exact h1 rfl)]
theorem aK {α:Type}{x:bX}{k:kC->Option α}{r:α}(h:eG x k=some r):k (fun tm=>du tm x)=some r:=by
 unfold eG at h
 split at h
 ·exact(ju h).2
 ·exact h
 ·exact h
 ·exact h
theorem fD {α:Type}:∀{xs:List bX}{k:List kC->Option α}{r:α},sX xs k=some r->∃os,k os=some r/\∀tm,KV os tm=xs.map (du tm)
 | [],k,r,h=>⟨[],h,fun _=>rfl⟩
 |x::l,k,r,h=>by
  have h1:=aK h;obtain⟨os,h2,h3⟩:=fD h1;exact⟨_,h2,fun tm=>by simp[KV,h3]⟩
def DR (P:aD)(o:gU)(ev:bX->ae)(f:Nat)(args:List ae):Prop:=
 (∃x lI lB first cap,o.op= .call {callee:= .value x,args:=lI,argTypes:=lB}/\ev x= .func (.func f) first cap/\args=first.toList++lI.toList.map ev++cap.toList)\/
 (∃r name lI lB recv,o.op= .call {callee:= .invoke r name,args:=lI,argTypes:=lB}/\dR P (ev r) name=some (f,recv)/\args=recv::lI.toList.map ev)
def PG (o:gU)(ev:bX->ae)(f:Nat)(args:List ae):Prop:=
 ∃x lI lB first cap,o.op= .defer {callee:= .value x,args:=lI,argTypes:=lB}/\ev x= .func (.func f) first cap/\args=first.toList++lI.toList.map ev++cap.toList
def zI (P:aD)(call:cB)(o:gU)(tm:Tm)(m:Mem)(df:Df)(v:ae)(m':Mem)(ml:Df):Prop:=
 (dx P (du tm) o m=some (v,m')/\ml=df)\/
 (∃f args,DR P o (du tm) f args/\call f args m=some (v,m')/\ml=df)\/
 (∃f args,PG o (du tm) f args/\v=undef/\m'=m/\ml=(f,args)::df)
def ei (P:aD)(o:gU)(op:lO):Prop:=
 ∀call tm m df k r,op call tm m df k=some r->∃v m' ml,k v m' ml=some r/\zI P call o tm m df v m' ml
section
variable {P:aD}{o:gU}
theorem cF:ei P o (jC P o):=by
 intro call tm m df k r h;unfold jC at h
 split at h
 ·rename_i v m' hv;exact⟨v,m',df,h,.inl ⟨hv,rfl⟩⟩
 ·cases h
theorem wG {ae7:Option (ae×Mem)}{df:Df}{k:Kv}{r:Ss}(h:Kn ae7 df k=some r):∃v m',ae7=some (v,m')/\k v m' df=some r:=by
 unfold Kn at h
 split at h
 ·exact⟨_,_,rfl,h⟩
 ·cases h
theorem z8 {x:bX}(ho:o.op= .move x\/o.op= .assign x):ei P o (TZ fun tm=>du tm x):=by
 intro call tm m df k r h;refine⟨_,_,_,h,.inl ⟨?_,rfl⟩⟩;unfold dx;rcases ho with ho|ho<;>rw[ho]
theorem IY {c x y:bX}(ho:o.op= .pick c x y):ei P o (IZ (fun tm=>du tm c) (fun tm=>du tm x) (fun tm=>du tm y)):=by
 intro call tm m df k r h;unfold IZ at h
 split at h
 ·rename_i hc;refine⟨_,_,_,h,.inl ⟨?_,rfl⟩⟩;unfold dx;rw[ho];simp only[hc,if_true]
 ·rename_i hc;refine⟨_,_,_,h,.inl ⟨?_,rfl⟩⟩;unfold dx;rw[ho];simp only[hc,bU,if_false]
 ·cases h
theorem kl (a b:Nat):Nat.blt a b=decide (a<b):=by rw[Bool.eq_iff_iff];simp[Nat.blt_eq]
theorem Dw (a b:Nat):Nat.ble a b=decide (a<=b):=by rw[Bool.eq_iff_iff];simp
theorem Ku (a b:Nat):Nat.beq a b=decide (a=b):=by rw[Bool.eq_iff_iff];simp
theorem fp (i j:Int):gB i j=decide (i<j):=by
 unfold gB
 split<;>(try rw[kl])<;>rw[Bool.eq_iff_iff]<;>simp only[jQ,bU,false_iff,true_iff,Int.ofNat_eq_natCast,Int.negSucc_eq]<;>omega
theorem uA (i j:Int):dd i j=decide (i=j):=by
 unfold dd
 split
 ·rw[Ku,Bool.eq_iff_iff];simp only[jQ,Int.ofNat_eq_natCast];omega
 ·rw[Ku,Bool.eq_iff_iff];simp only[jQ,Int.negSucc_eq];omega
 ·rename_i h1 h2;rw[Bool.eq_iff_iff];simp only[bU,jQ,false_iff];rintro rfl;cases i with
  |ofNat a=>exact h1 a a rfl rfl
  |negSucc a=>exact h2 a a rfl rfl
theorem tX {a b:cf}(h:Nat.beq (xC a) (xC b)=true):a=b:=by
 cases a<;>cases b<;>first |rfl|(exfalso;revert h;decide)
theorem rZ {k:cf}{n:Nat}(h:Nat.blt n (iN k)=true):k.wrap n=n:=by
 rw[kl,jQ]at h;cases k<;>simp only[iN]at h<;>simp[cf.wrap,cf.bits,cf.signed]<;>omega
theorem Vj (k:cf):iN k<=2^k.bits:=by cases k<;>decide
theorem jd {α β:Type}{f:α->Sem β}:∀{x:Sem α}{a:α},x.aH P=some a->(x>>=f).aH P=(f a).aH P:=by
 intro x
 show∀{a:α},x.aH P=some a->(x.bind f).aH P=(f a).aH P
 induction x with
 |pure a=>intro b h;simp only[Sem.aH,ah]at h;subst h;rfl
 |program k ih=>intro b h;exact ih P h
 |_=>intro b h;simp[Sem.aH]at h
theorem eP {t:aM}{d:TypeDesc}(h:P.underlying t=some d):(underlying t).aH P=some d:=by
 unfold underlying;rw[jd (a:=P) rfl,h];rfl
theorem ix {ev:bX->ae}(h1:o.op.operands.all (fun x=>plain (ev x))=true){v:ae}(h2:(execOp ev o).aH P=some (.value v))(h3:plain v=true):dc P ev o=some v:=by
 unfold dc;rw[bC h1,h2];simp only[h3,if_true]
theorem qI {ev:bX->ae}{op:BinOp}{t u:aM}{x y:bX}(ho:o.op= .binOp op t x y u){a b:cf}{i j:Int}(hx:ev x= .int a i)(hy:ev y= .int b j){v:ae}
  (h:(binOp op t (.int a i) (.int b j)).aH P=some v)(hv:plain v=true):dc P ev o=some v:=by
 refine ix ?_ ?_ hv
 ·rw[ho];simp[Op.operands,hx,hy,plain,cR]
 ·unfold execOp;rw[ho];simp only[hx,hy];have e:eqGuard op t x y (.int a i) (.int b j)=pure ():=by
   unfold eqGuard
   split<;>rfl
  rw[e];simp only[pure_bind];generalize binOp op t (.int a i) (.int b j)=s at h
  show Sem.aH P (s.bind fun v=>Sem.pure (Next.value v))=_
  have key:∀s:Sem ae,s.aH P=some v->Sem.aH P (s.bind fun v=>Sem.pure (Next.value v))=some (Next.value v):=by
   intro s
   induction s with
   |pure a=>intro h;simp only[Sem.aH,ah]at h;subst h;rfl
   |program k ih=>intro h;exact ih P h
   |_=>intro h;simp[Sem.aH]at h
  exact key s h
theorem A4 {ev:bX->ae}{op:BinOp}{t u:aM}{x y:bX}(ho:o.op= .binOp op t x y u){a b:cf}{i j:Int}(hx:ev x= .int a i)(hy:ev y= .int b j){v:ae}(hp:dc P ev o=some v){m:Mem}:dx P ev o m=some (v,m):=by
 unfold dx;rw[ho];simp only[];have e:∀c d,rK P t c d (ev x) (ev y)=none:=by
  intro c d;rw[hx,hy];unfold rK
  split<;>first |rfl|(rename_i h;cases h)
 split
 ·rw[e,hp];rfl
 ·rw[e,hp];rfl
 ·rw[hp];rfl
theorem zI.of{call:cB}{tm:Tm}{m m':Mem}{df:Df}{v:ae}(h:dx P (du tm) o m=some (v,m')):zI P call o tm m df v m' df:= .inl ⟨h,rfl⟩
variable {x y:bX}
abbrev ex (x:bX):kC:=fun tm=>du tm x
theorem mV {op:BinOp}{t u:aM}(ho:o.op= .binOp op t x y u){f:Int->Int->Bool}(hf:∀k i j,(binOp op t (.int k i) (.int k j)).aH P=some (.bool (f i j))):ei P o (EK f (ex x) (ex y)):=by
 intro call tm m df k r h;unfold EK at h
 split at h
 ·rename_i a i hx
  split at h
  ·rename_i b j hy
   split at h
   ·rename_i hk;obtain rfl:=tX hk;exact⟨_,_,_,h,.of (A4 ho hx hy (qI ho hx hy (hf _ _ _) rfl))⟩
   ·cases h
  ·cases h
 ·cases h
theorem zH {op:BinOp}{t u:aM}(ho:o.op= .binOp op t x y u){f:Int->Int->Int}{q:Int->Int->Option Nat}(hq:∀i j n,q i j=some n->f i j=n)
  (hf:∀k i j,(binOp op t (.int k i) (.int k j)).aH P=some (.int k (k.wrap (f i j)))):ei P o (arF q f (ex x) (ex y)):=by
 intro call tm m df k r h;unfold arF at h
 split at h
 ·rename_i a i hx
  split at h
  ·rename_i b j hy
   split at h
   ·rename_i hk;obtain rfl:=tX hk;have key:=A4 (m:=m) ho hx hy (qI ho hx hy (hf _ _ _) rfl)
    split at h
    ·rename_i n hn
     split at h
     ·rename_i hs;refine⟨_,_,_,h,.of ?_⟩;rw[key,hq _ _ _ hn,rZ hs];rfl
     ·exact⟨_,_,_,h,.of key⟩
    ·exact⟨_,_,_,h,.of key⟩
   ·cases h
  ·cases h
 ·cases h
theorem Dy {k:cf}{i:Nat}(h:Nat.blt i (iN k)=true):(BitVec.ofInt k.bits i).toNat=i:=by
 rw[kl,jQ]at h;have :=Vj k;simp only[BitVec.toNat_ofInt];have h2:(i:Int)%((2^k.bits:Nat):Int)=i:=Int.emod_eq_of_lt aj aj;rw[h2];simp
theorem Vi (k:cf):∃n,iN k=2^n:=by
 cases k
 ·exact⟨7,rfl⟩
 ·exact⟨15,rfl⟩
 ·exact⟨31,rfl⟩
 ·exact⟨63,rfl⟩
 ·exact⟨8,rfl⟩
 ·exact⟨16,rfl⟩
 ·exact⟨32,rfl⟩
 ·exact⟨64,rfl⟩
theorem uI {op:BinOp}{t u:aM}(ho:o.op= .binOp op t x y u){q:Nat->Nat->Nat}(hq:∀n i j,i<2^n->j<2^n->q i j<2^n)
  (hf:∀(k:cf) (i j:Nat),(BitVec.ofInt k.bits (i:Int)).toNat=i->(BitVec.ofInt k.bits (j:Int)).toNat=j->(binOp op t (.int k i) (.int k j)).aH P=some (.int k (k.wrap ((q i j:Nat):Int)))):ei P o (Av P o q (ex x) (ex y)):=by
 intro call tm m df k r h;unfold Av at h
 split at h
 ·rename_i a i hx
  split at h
  ·rename_i b j hy
   split at h
   ·rename_i hk;simp only[ag]at hk;obtain⟨⟨hk,hi⟩,hj⟩:=hk;obtain rfl:=tX hk;refine⟨_,_,_,h,.of ?_⟩;rw[A4 ho hx hy (qI ho hx hy (hf a i j (Dy hi) (Dy hj)) rfl)];obtain⟨n,hn⟩:=Vi a;have :Nat.blt (q i j) (iN a)=true:=by
     rw[kl,jQ]at hi hj⊢;rw[hn]at hi hj⊢;exact hq n i j hi hj
    rw[rZ this];rfl
   ·exact cF call tm m df k r h
  ·cases h
 ·exact cF call tm m df k r h
theorem Da {op:BinOp}{t u:aM}(ho:o.op= .binOp op t x y u){q:Nat->Nat->Nat}(hq:∀i j,q i j<=i)
  (hf:∀(k:cf) (i j:Nat),Nat.blt i (iN k)=true->(binOp op t (.int k i) (.int k ((j+1:Nat):Int))).aH P=some (.int k ((q i (j+1):Nat):Int))):ei P o (Hw P o q (ex x) (ex y)):=by
 intro call tm m df k r h;unfold Hw at h
 split at h
 ·rename_i a i hx
  split at h
  ·rename_i b j hy
   split at h
   ·rename_i hk;simp only[ag]at hk;obtain⟨hk,hi⟩:=hk;obtain rfl:=tX hk;exact⟨_,_,_,h,.of (A4 ho hx hy (qI ho hx hy (hf a i j hi) rfl))⟩
   ·exact cF call tm m df k r h
  ·exact cF call tm m df k r h
 ·exact cF call tm m df k r h
theorem By {ev:bX->ae}{op:BinOp}{t u:aM}(ho:o.op= .binOp op t x y u){a b:ByteArray}(hx:ev x= .string a)(hy:ev y= .string b){v:ae}
  (h:(Op.stringOp op a b).aH P=some v)(hv:plain v=true){m:Mem}(dq:op≠ .shl/\op≠ .shr):dx P ev o m=some (v,m):=by
 have hp:dc P ev o=some v:=by
  refine ix ?_ ?_ hv
  ·rw[ho];simp[Op.operands,hx,hy,plain,cR]
  ·unfold execOp;rw[ho];simp only[hx,hy];have e:eqGuard op t x y (.string a) (.string b)=pure ():=by
    unfold eqGuard
    split<;>rfl
   have e2:binOp op t (.string a) (.string b)=Op.stringOp op a b:=by cases op<;>rfl
   rw[e,e2];simp only[pure_bind];generalize Op.stringOp op a b=s at h
   show Sem.aH P (s.bind fun v=>Sem.pure (Next.value v))=_
   have key:∀s:Sem ae,s.aH P=some v->Sem.aH P (s.bind fun v=>Sem.pure (Next.value v))=some (Next.value v):=by
    intro s
    induction s with
    |pure a=>intro h;simp only[Sem.aH,ah]at h;subst h;rfl
    |program k ih=>intro h;exact ih P h
    |_=>intro h;simp[Sem.aH]at h
   exact key s h
 unfold dx;rw[ho];simp only[];have e:∀c d,rK P t c d (ev x) (ev y)=none:=by
  intro c d;rw[hx,hy];unfold rK
  split<;>first |rfl|(rename_i h;cases h)
 split
 ·rw[e,hp];rfl
 ·rw[e,hp];rfl
 ·rw[hp];rfl
theorem xo {want:Bool}{t u:aM}(ho:o.op= .binOp (if want then .eql else .neq) t x y u):ei P o (yN want (ex x) (ex y)):=by
 intro call tm m df k r h;unfold yN at h
 split at h
 ·rename_i a hx
  split at h
  ·rename_i b hy;refine⟨_,_,_,h,.of (By ho hx hy ?_ rfl ?_)⟩
   ·cases want with
    |true=>simp[Op.stringOp,pure,Sem.aH]
    |false=>simp[Op.stringOp,pure,Sem.aH]
   ·cases want<;>simp
  ·cases h
 ·cases h
theorem Nb {t u:aM}(ho:o.op= .binOp .add t x y u):ei P o (Nc (ex x) (ex y)):=by
 intro call tm m df k r h;unfold Nc at h
 split at h
 ·rename_i a hx
  split at h
  ·rename_i b hy
   split at h
   ·rename_i hs;rw[kl,jQ]at hs;refine⟨_,_,_,h,.of (By ho hx hy ?_ rfl de)⟩;unfold Op.stringOp;simp only[];rw[bS (by simp only[cf.max,cf.signed,cf.bits];simp;omega)];rfl
   ·cases h
  ·cases h
 ·cases h
theorem Nl {op:BinOp}{t u:aM}(ho:o.op= .binOp op t x y u){f:lO}(h:V0 P o op t (ex x) (ex y)=some f):ei P o f:=by
 unfold V0 at h
 split at h
 ·split at h
  ·cases h;exact mV ho fun k i j=>by simp[binOp,Op.intCmp,pure,Sem.aH,fp]
  ·cases h;exact mV ho fun k i j=>by simp[binOp,Op.intCmp,pure,Sem.aH,Yu,fp];rw[Bool.eq_iff_iff];simp
  ·cases h;exact mV ho fun k i j=>by simp[binOp,Op.intCmp,pure,Sem.aH,qE,fp]
  ·cases h;exact mV ho fun k i j=>by simp[binOp,Op.intCmp,pure,Sem.aH,EE,fp];rw[Bool.eq_iff_iff];simp
  ·cases h;exact mV ho fun k i j=>by simp[binOp,Op.intCmp,pure,Sem.aH,uA];rw[Bool.eq_iff_iff];simp
  ·cases h;exact mV ho fun k i j=>by simp[binOp,Op.intCmp,pure,Sem.aH,tB,uA];rw[Bool.eq_iff_iff];simp
  ·cases h;refine zH ho (fun i j n hn=>?_) fun k i j=>by simp[binOp,Op.intArith,pure,Sem.aH]
   unfold V7 at hn
   split at hn
   ·cases hn;rfl
   ·cases hn
  ·cases h;refine zH ho (fun i j n hn=>?_) fun k i j=>by simp[binOp,Op.intArith,pure,Sem.aH];rfl
   unfold SA at hn
   split at hn
   ·rename_i a b
    split at hn
    ·rename_i hb;rw[Dw,jQ]at hb;cases hn
     show(a:Int)-b=((a-b:Nat):Int)
     omega
    ·cases hn
   ·cases hn
  ·cases h;exact zH ho (fun i j n hn=>by cases hn) fun k i j=>by simp[binOp,Op.intArith,pure,Sem.aH]
  ·cases h;refine uI ho (fun n i j hi hj=>Nat.or_lt_two_pow hi hj) fun k i j hi hj=>?_
   simp only[binOp,ne_eq,not_true_eq_false,if_false,Op.intBits,pure,Sem.aH];rw[BitVec.toNat_or,hi,hj];rfl
  ·cases h;refine uI ho (fun n i j hi hj=>Nat.and_lt_two_pow i hj) fun k i j hi hj=>?_
   simp only[binOp,ne_eq,not_true_eq_false,if_false,Op.intBits,pure,Sem.aH];rw[BitVec.toNat_and,hi,hj];rfl
  ·cases h;refine uI ho (fun n i j hi hj=>Nat.xor_lt_two_pow hi hj) fun k i j hi hj=>?_
   simp only[binOp,ne_eq,not_true_eq_false,if_false,Op.intBits,pure,Sem.aH];rw[BitVec.toNat_xor,hi,hj];rfl
  ·cases h;refine Da ho (fun i j=>Nat.div_le_self i j) fun k i j hi=>?_
   simp only[binOp,ne_eq,not_true_eq_false,if_false,Op.intDiv,pure];rw[bS aj];simp only[Sem.aH];have e:(i:Int).tdiv (j+1:Nat)=((Nat.div i (j+1):Nat):Int):=rfl;rw[e,rZ];rw[kl,jQ]at hi⊢;exact Nat.lt_of_le_of_lt (Nat.div_le_self i _) hi
  ·cases h;refine Da ho (fun i j=>Nat.mod_le i j) fun k i j hi=>?_
   simp only[binOp,ne_eq,not_true_eq_false,if_false,Op.intDiv,pure];rw[bS aj];rfl
  ·cases h;exact cF
 ·split at h
  ·cases h;exact xo (want:=true) ho
  ·cases h;exact xo (want:=false) ho
  ·cases h;exact Nb ho
  ·cases h;exact cF
 ·cases h;exact cF
theorem ru {v:ae}{k:Nat->Nat->Rs}{r:Ss}(h:AJ v k=some r):∃b o,v= .pointer (some ⟨b,o,none⟩)/\k b o=some r:=by
 unfold AJ at h
 split at h
 ·exact⟨_,_,rfl,h⟩
 ·cases h
theorem yf {α:Type}:∀(n:Nat) (l:List α),J8 n l=l.drop n
 |0,l=>rfl
 |1,l=>by cases l<;>rfl
 |2,l=>by rcases l with _|⟨_,_|⟨_,l⟩⟩<;>rfl
 |3,l=>by rcases l with _|⟨_,_|⟨_,_|⟨_,l⟩⟩⟩<;>rfl
 |4,l=>by rcases l with _|⟨_,_|⟨_,_|⟨_,_|⟨_,l⟩⟩⟩⟩<;>rfl
 |5,l=>by rcases l with _|⟨_,_|⟨_,_|⟨_,_|⟨_,_|⟨_,l⟩⟩⟩⟩⟩<;>rfl
 |6,l=>by rcases l with _|⟨_,_|⟨_,_|⟨_,_|⟨_,_|⟨_,_|⟨_,l⟩⟩⟩⟩⟩⟩<;>rfl
 |7,l=>by rcases l with _|⟨_,_|⟨_,_|⟨_,_|⟨_,_|⟨_,_|⟨_,_|⟨_,l⟩⟩⟩⟩⟩⟩⟩<;>rfl
 |n+8,l=>by
  rcases l with _|⟨_,_|⟨_,_|⟨_,_|⟨_,_|⟨_,_|⟨_,_|⟨_,_|⟨_,l⟩⟩⟩⟩⟩⟩⟩⟩<;>simp only[J8]
  all_goals first |exact yf n l|simp
theorem CK (m:Mem)(b o n:Nat):OY m b o n=!meets m.bl b o n:=by
 unfold OY
 split
 ·rename_i h;rw[h];rfl
 ·rfl
theorem Ma {m:Mem}{b o:Nat}{k:ae->Rs}{r:Ss}(h:Ad m b o k=some r):∃v,m.dB b o 1=some [v]/\k v=some r:=by
 unfold Ad at h
 split at h
 ·rename_i sz cs es c str pos st hb
  split at h
  ·rename_i hh;rw[CK]at hh;rw[yf]at h
   split at h
   ·rename_i v t hd;refine⟨v,?_,h⟩;unfold Mem.dB;simp only[hb,hh,hd];simp[fX]
   ·cases h
  ·cases h
 ·cases h
theorem Jl {t:aM}(ho:o.op= .load t x){f:lO}(h:Jm P o t (ex x)=some f):ei P o f:=by
 unfold Jm at h
 split at h
 ·rename_i ha
  split at h
  ·rename_i n hn;cases h;intro call tm m df k r h;unfold L8 at h;obtain⟨b,q,hx,h⟩:=ru h;unfold aen at h
   split at h
   ·rename_i l hl;refine⟨_,_,_,h,.of ?_⟩;unfold dx;rw[ho];simp only[hx,j9,ha,hn,a9,hl,cN]
   ·cases h
  ·cases h;exact cF
 ·rename_i ha;cases h;intro call tm m df k r h;unfold L9 at h;obtain⟨b,q,hx,h⟩:=ru h;obtain⟨v,hv,h⟩:=Ma h;refine⟨_,_,_,h,.of ?_⟩;unfold dx;rw[ho];simp only[hx,j9,ha,hv,a9,List.head?_cons,cN]
 ·cases h;exact cF
theorem A0:∀(n:Nat) (l:List (Option ae)) (v:ae) (l':List (Option ae)),v7 n l v=some l'->eA l n [v]=some l'
 |0,l,v,l',h=>by
  unfold v7 at h
  split at h
  ·cases h;simp[eA]
  ·cases h
 |1,l,v,l',h=>by
  unfold v7 at h
  split at h
  ·cases h;simp[eA]
  ·cases h
 |2,l,v,l',h=>by
  unfold v7 at h
  split at h
  ·cases h;simp[eA]
  ·cases h
 |3,l,v,l',h=>by
  unfold v7 at h
  split at h
  ·cases h;simp[eA]
  ·cases h
 |4,l,v,l',h=>by
  unfold v7 at h
  split at h
  ·cases h;simp[eA]
  ·cases h
 |5,l,v,l',h=>by
  unfold v7 at h
  split at h
  ·cases h;simp[eA]
  ·cases h
 |6,l,v,l',h=>by
  unfold v7 at h
  split at h
  ·cases h;simp[eA]
  ·cases h
 |7,l,v,l',h=>by
  unfold v7 at h
  split at h
  ·cases h;simp[eA]
  ·cases h
 |n+8,l,v,l',h=>by
  unfold v7 at h
  split at h
  ·split at h
   ·rename_i t' ht;cases h;have :=A0 n _ v t' ht;simp[eA,this]
   ·cases h
  ·cases h
theorem Qr {m:Mem}{b o:Nat}(h:Qs m b o=true):m.cS b o 1=true:=by
 unfold Qs at h
 split at h
 ·rename_i h1 h2;rw[Dw,jQ]at h h1;unfold Mem.cS;rw[h2];simp[meets,h,h1]
 ·exact h
theorem Is {m:Mem}{b o:Nat}{v:ae}{k:Mem->Rs}{r:Ss}(hv:v.oneCell'=true)(h:BF m b o v k=some r):∃m',m.dK b o [v]=some m'/\k m'=some r:=by
 unfold BF at h
 split at h
 ·rename_i sz cs es c str pos st hb
  split at h
  ·rename_i hm
   split at h
   ·rename_i gQ gO;refine⟨_,?_,h⟩;unfold Mem.dK;simp only[hb,List.length_singleton,Qr hm,List.all_cons,hv,List.all_nil,A0 _ _ _ _ gO,cN];rfl
   ·cases h
  ·cases h
 ·cases h
theorem Qc {v:ae}(h:kI v=true):v.oneCell'=true/\v.cells=#[v]:=by
 cases v<;>first |exact⟨rfl,rfl⟩|cases h
theorem Gu {t:aM}{p:bX}(ho:o.op= .store t p x){f:lO}(h:BC P o t (ex p) (ex x)=some f):ei P o f:=by
 unfold BC at h
 split at h
 ·rename_i n hn;cases h;intro call tm m df k r h;unfold AZ at h;obtain⟨b,q,hp,h⟩:=ru h
  split at h
  ·rename_i cs hx
   split at h
   ·rename_i hs;rw[Ku,jQ]at hs;unfold ag5 at h
    split at h
    ·rename_i m' hm;refine⟨_,_,_,h,.of ?_⟩;unfold dx;rw[ho];simp only[hp,vZ,hx];rw[bC (by rw[hn,hs];rfl)]
     show(m.dK b q cs.toList).map _=_
     rw[hm];rfl
    ·cases h
   ·cases h
  ·split at h
   ·rename_i hs
    split at h
    ·rename_i hv;obtain⟨h1,h2⟩:=Qc hv;obtain⟨m',hm,h⟩:=Is h1 h;refine⟨_,_,_,h,.of ?_⟩;unfold dx;rw[ho];simp only[hp,vZ];rw[Ku,jQ]at hs;rw[h2,bC (by rw[hn,hs];rfl)]
     show(m.dK b q [du tm x]).map _=_
     rw[hm];rfl
    ·cases h
   ·cases h
 ·cases h;exact cF
theorem zx {st:aM}{p:bX}{f:Nat}(ho:o.op= .fieldAddr st p f){q:lO}(h:pT P o st (ex p) f=some q):ei P o q:=by
 unfold pT at h
 split at h
 ·rename_i fields hu
  split at h
  ·rename_i fd hfd
   split at h
   ·rename_i n hn;cases h;intro call tm m df k r h;unfold Ns at h;obtain⟨b,c,hp,h⟩:=ru h;refine⟨_,_,_,h,.of ?_⟩;unfold dx;rw[ho];simp only[sH,hu,hp,hfd,hn];rfl
   ·cases h;exact cF
  ·cases h;exact cF
 ·cases h;exact cF
theorem Ft {v:ae}{len:Nat}{k:Nat->Rs}{r:Ss}(h:Qo v len k=some r):∃ki n,v= .int ki (.ofNat n)/\n<len/\k n=some r:=by
 unfold Qo at h
 split at h
 ·split at h
  ·rename_i hb;rw[kl,jQ]at hb;exact⟨_,_,rfl,hb,h⟩
  ·cases h
 ·cases h
theorem zh {t:aM}{i:bX}(ho:o.op= .indexAddr t x i){q:lO}(h:pL P o t (ex x) (ex i)=some q):ei P o q:=by
 unfold pL at h
 split at h
 ·rename_i e hu
  split at h
  ·rename_i s hs;cases h;intro call tm m df k r h;unfold Ha at h
   split at h
   ·rename_i b c len cap hx;obtain⟨ki,n,hi,cC,h⟩:=Ft h;refine⟨_,_,_,h,.of ?_⟩;unfold dx;rw[ho];simp only[pM,hu,hx,hi];rw[bC ⟨de,by simp;omega⟩,hs];simp only[cN,Int.ofNat_eq_natCast,Int.toNat_natCast];rfl
   ·cases h
  ·cases h;exact cF
 ·rename_i len e hu
  split at h
  ·rename_i s hs;cases h;intro call tm m df k r h;unfold Hc at h;obtain⟨b,c,hx,h⟩:=ru h;obtain⟨ki,n,hi,cC,h⟩:=Ft h;refine⟨_,_,_,h,.of ?_⟩;unfold dx;rw[ho];simp only[pM,hu,hx,hi];rw[bC ⟨de,by simp;omega⟩,hs];simp only[cN,Int.ofNat_eq_natCast,Int.toNat_natCast];rfl
  ·cases h;exact cF
 ·cases h;exact cF
theorem F8:∀(l:List UInt8) (n:Nat),wI l n=l[n]?
 | [],n=>by simp[wI]
 |b::l,0=>rfl
 |b::l,n+1=>by simp[wI,F8 l n]
theorem Nf (s:ByteArray)(n:Nat):s[n]?=s.data.toList[n]?:=by
 rw[Array.getElem?_toList]
 by_cases h:n<s.size
 ·rw[getElem?_pos s n h,Array.getElem?_eq_getElem h];rfl
 ·rw[getElem?_neg s n h,Array.getElem?_eq_none (by simpa using h)]
theorem Hb {t:aM}{i:bX}(ho:o.op= .index t x i){q:lO}(h:CA P o t (ex x) (ex i)=some q):ei P o q:=by
 unfold CA at h
 split at h
 ·rename_i hu;cases h;intro call tm m df k r h;unfold VV at h
  split at h
  ·rename_i s hx
   split at h
   ·rename_i ki n hi
    split at h
    ·rename_i b hb;rw[F8]at hb;refine⟨_,_,_,h,.of ?_⟩;unfold dx;rw[ho];have e1:wo P t (du tm x) (du tm i)=none:=by unfold wo;rw[hu]
     have e2:dc P (du tm) o=some (.int .u8 (.ofNat b.toNat)):=by
      refine ix ?_ ?_ rfl
      ·rw[ho];simp only[Op.operands];simp[show du tm x= .string s from hx,show du tm i= .int ki (.ofNat n)from hi,plain,cR]
      ·unfold execOp;rw[ho];simp only[show du tm x= .string s from hx,show du tm i= .int ki (.ofNat n)from hi,Instr.index,asIntOf,pure_bind];have my:s[(Int.ofNat n).toNat]?=some b:=by rw[Nf];exact hb
       refine(jd (a:= .int .u8 (.ofNat b.toNat)) ?_).trans rfl;rw[jd (eP hu)];simp only[my];rw[bC de];rfl
     simp only[e1,e2];rfl
    ·cases h
   ·cases h
  ·cases h
 ·cases h;exact cF
end
end Go.AM
namespace Go.AM
open Go
section
variable {P:aD}{o:gU}{x y:bX}
theorem Me {lI lB:Array _}{t:aM}{l:List aM}(ho:o.op= .call {callee:= .builtin .len,args:=lI,argTypes:=lB})(ha:lI.toList=[x])(ht:lB.toList=t::l){q:lO}(h:Un P o t (ex x)=some q):ei P o q:=by
 have adG:(lB[0]?:Option aM)=some t:=by rw[<-Array.getElem?_toList,ht];rfl
 unfold Un at h
 split at h
 ·rename_i hu;cases h;intro call tm m df k r h;unfold Md at h
  split at h
  ·rename_i s hx;refine⟨_,_,_,h,.of ?_⟩;have vq:du tm x= .string s:=hx;have has:lI=#[x]:=by apply Array.ext';simpa using ha
   have e:dc P (du tm) o=some (.int .i64 (.ofNat s.size)):=by
    refine ix ?_ ?_ rfl
    ·rw[ho];simp[Op.operands,Call.operands,has,vq,plain,cR]
    ·unfold execOp;rw[ho];simp only[resolve,pure_bind,invoke,builtin];refine(jd (a:= .int .i64 (.ofNat s.size)) ?_).trans rfl;unfold Builtin.len_;simp only[has,adG,List.map_toArray,List.map_cons,List.map_nil,List.getElem?_toArray,List.getElem?_cons_zero,vq];rw[jd (eP hu)];rfl
   unfold dx;rw[ho];simp only[ha,adG,a9,hu,vq,e];rfl
  ·cases h
 ·rename_i et hu;cases h;intro call tm m df k r h;unfold Um at h
  split at h
  ·rename_i a n c hx;refine⟨_,_,_,h,.of ?_⟩;have vq:du tm x= .slice a n c:=hx;unfold dx;rw[ho];simp only[ha,adG,a9,hu,vq];rfl
  ·cases h
 ·cases h;exact cF
theorem C0 {i:Nat}(ho:o.op= .extract x i):ei P o (x9 (ex x) i):=by
 intro call tm m df k r h;unfold x9 at h
 split at h
 ·rename_i vs hx
  split at h
  ·rename_i v hv;refine⟨_,_,_,h,.of ?_⟩;have vq:du tm x= .tuple vs:=hx;unfold dx;rw[ho];rw[Array.getElem?_toList]at hv;simp only[vq,hv,cN]
  ·cases h
 ·cases h
theorem LZ {t:aM}(ho:o.op= .unOp .not t x):ei P o (Yf (ex x)):=by
 intro call tm m df k r h;unfold Yf at h
 split at h
 ·rename_i b hx;have vq:du tm x= .bool b:=hx;refine⟨_,_,_,h,.of ?_⟩;have e:dc P (du tm) o=some (.bool (!b)):=by
   refine ix ?_ ?_ rfl
   ·rw[ho];simp[Op.operands,vq,plain,cR]
   ·unfold execOp;rw[ho];simp only[vq];rfl
  unfold dx;rw[ho];simp only[e,cN]
 ·cases h
theorem L0 (ho:o.op= .nilCheck x):ei P o (TR P o (ex x)):=by
 intro call tm m df k r h;unfold TR at h
 split at h
 ·rename_i a hx;have vq:du tm x= .pointer (some a):=hx;refine⟨_,_,_,h,.of ?_⟩;unfold dx;rw[ho];simp only[vq]
 ·exact cF call tm m df k r h
theorem HS {e:aM}{z:ae}(ho:o.op= .alloc e)(hz:gL P e=some z):ei P o (V5 (z.cells.toList.map some)):=by
 intro call tm m df k r h;refine⟨_,_,_,h,.of ?_⟩;unfold dx;rw[ho];simp only[hz,cN];rfl
theorem Ng {e:aM}(ho:o.op= .box e x):ei P o (aiL (ex x)):=by
 intro call tm m df k r h;refine⟨_,_,_,h,.of ?_⟩;unfold dx;rw[ho];rfl
theorem Cd {lI lB:Array _}{oe:Bool}(ho:o.op= .call {callee:= .builtin (if oe then .max else .min),args:=lI,argTypes:=lB})(ha:lI.toList=[x,y]):ei P o (L2 P o oe (ex x) (ex y)):=by
 intro call tm m df k r h;unfold L2 at h
 split at h
 ·rename_i a i hx
  split at h
  ·rename_i b j hy;have vq:du tm x= .int a i:=hx;have DT:du tm y= .int b j:=hy;refine⟨_,_,_,h,.of ?_⟩;have has:lI=#[x,y]:=by apply Array.ext';simpa using ha
   have e:dc P (du tm) o=some (.int a (if gB j i then(if oe then i else j)else(if oe then j else i))):=by
    refine ix ?_ ?_ rfl
    ·rw[ho];cases oe<;>simp[Op.operands,Call.operands,has,vq,DT,plain,cR]
    ·unfold execOp;rw[ho];cases oe
     ·simp only[bU,if_false,resolve,pure_bind,invoke,builtin,has,List.map_toArray,List.map_cons,List.map_nil,vq,DT];refine(jd (a:= .int a (if gB j i then j else i)) ?_).trans rfl;rw[fp];simp only[Builtin.min_,List.foldlM,Builtin.min2,pure_bind,jQ];rfl
     ·simp only[if_true,resolve,pure_bind,invoke,builtin,has,List.map_toArray,List.map_cons,List.map_nil,vq,DT];refine(jd (a:= .int a (if gB j i then i else j)) ?_).trans rfl;rw[fp];have hm:(if j>i then j else i)=if j<i then i else j:=by split<;>split<;>omega
      simp only[Builtin.max_,List.foldlM,Builtin.max2,pure_bind,jQ,hm];rfl
   unfold dx;rw[ho];cases oe
   ·simp only[bU,if_false]at e⊢;rw[e];rfl
   ·simp only[if_true]at e⊢;rw[e];rfl
  ·cases h
 ·exact cF call tm m df k r h
theorem Kq {f:Nat}{lI lB:Array _}{os:List kC}(ho:o.op= .call {callee:= .value (.func f),args:=lI,argTypes:=lB})(CF:∀tm,KV os tm=lI.toList.map (du tm)):ei P o (VT f os):=by
 intro call tm m df k r h;obtain⟨v,m',hc,h⟩:=wG h;refine⟨_,_,_,h,.inr (.inl ⟨f,_,.inl ⟨_,_,_,#[],#[],ho,rfl,rfl⟩,?_,rfl⟩)⟩;simpa[CF tm]using hc
theorem Kk {lI lB:Array _}{os:List kC}(ho:o.op= .call {callee:= .value x,args:=lI,argTypes:=lB})(CF:∀tm,KV os tm=lI.toList.map (du tm)):ei P o (Kl (ex x) os):=by
 intro call tm m df k r h;unfold Kl at h
 split at h
 ·rename_i f first cap hx
  obtain⟨v,m',hc,h⟩:=wG h;refine⟨_,_,_,h,.inr (.inl ⟨f,_,.inl ⟨_,_,_,first,cap,ho,hx,rfl⟩,?_,rfl⟩)⟩;rw[<-CF tm];exact hc
 ·cases h
theorem Ko {rc:bX}{name:String}{lI lB:Array _}{os:List kC}(ho:o.op= .call {callee:= .invoke rc name,args:=lI,argTypes:=lB})(CF:∀tm,KV os tm=lI.toList.map (du tm)):ei P o (Pq P (ex rc) name os):=by
 intro call tm m df k r h;unfold Pq at h
 split at h
 ·rename_i f recv hx;obtain⟨v,m',hc,h⟩:=wG h;refine⟨_,_,_,h,.inr (.inl ⟨f,_,.inr ⟨_,_,_,_,recv,ho,hx,rfl⟩,?_,rfl⟩)⟩;rw[<-CF tm];exact hc
 ·cases h
theorem HD {lI lB:Array _}{os:List kC}(ho:o.op= .defer {callee:= .value x,args:=lI,argTypes:=lB})(CF:∀tm,KV os tm=lI.toList.map (du tm)):ei P o (HE (ex x) os):=by
 intro call tm m df k r h;unfold HE at h
 split at h
 ·rename_i f first cap hx
  refine⟨_,_,_,h,.inr (.inr ⟨f,_,⟨_,_,_,first,cap,ho,hx,rfl⟩,rfl,rfl,?_⟩)⟩;rw[<-CF tm]
 ·cases h
theorem Ke {op:lO}(h:ij P o=some op):ei P o op:=by
 unfold ij at h
 split at h
 ·rename_i ho;have :=aK h;cases this;exact z8 (.inl ho)
 ·rename_i ho;have :=aK h;cases this;exact z8 (.inr ho)
 ·rename_i ho;have :=aK (aK (aK h));cases this;exact IY ho
 ·rename_i ho;exact Nl ho (aK (aK h))
 ·rename_i ho;exact Jl ho (aK h)
 ·rename_i ho;exact Gu ho (aK (aK h))
 ·rename_i ho;exact zx ho (aK h)
 ·rename_i ho;exact zh ho (aK (aK h))
 ·rename_i ho;exact Hb ho (aK (aK h))
 ·rename_i ho;have :=aK h;cases this;exact C0 ho
 ·rename_i ho;have :=aK h;cases this;exact LZ ho
 ·rename_i ho;have :=aK h;cases this;exact L0 ho
 ·rename_i ho
  split at h
  ·rename_i z hz;cases h;exact HS ho hz
  ·cases h
 ·rename_i ho;have :=aK h;cases this;exact Ng ho
 ·rename_i ho
  split at h
  ·rename_i ha;have :=aK (aK h);cases this;exact Cd (oe:=false) ho ha
  ·cases h;exact cF
 ·rename_i ho
  split at h
  ·rename_i ha;have :=aK (aK h);cases this;exact Cd (oe:=true) ho ha
  ·cases h;exact cF
 ·rename_i ho;obtain⟨os,h,CF⟩:=fD h;cases h;exact Kq ho CF
 ·rename_i ho;obtain⟨os,h,CF⟩:=fD (aK h);cases h;exact Kk ho CF
 ·rename_i ho;obtain⟨os,h,CF⟩:=fD (aK h);cases h;exact Ko ho CF
 ·rename_i ho
  split at h
  ·rename_i ha ht;exact Me ho ha ht (aK h)
  ·cases h;exact cF
 ·rename_i ho;obtain⟨os,h,CF⟩:=fD (aK h);cases h;exact HD ho CF
 ·cases h;exact cF
def GL (d:Option Tmp)(v:ae)(tm:Tm):Tm:=
 match d with
 |some d=>tJ d v tm
 |none=>tm
def aa6 (P:aD)(nt:Nat)(o:gU):Prop:=(∀x∈o.op.operands,rI nt P.globals.size x=true)/\(∀d,o.dst=some d->d<512)
def qL (P:aD)(call:cB)(nt:Nat)(ops:Array gU)(i:Nat)(tm:Tm)(m:Mem)(df:Df)(fe:Tm)(m':Mem)(ml:Df):Prop:=
 ∃o,ops[i]?=some o/\aa6 P nt o/\(∀j want,o.guard=some (j,want)->∃g,(ops[j]?).bind (·.dst)=some g/\g<nt/\g<512)/\
  ((cP ops o tm=true/\∃v,zI P call o tm m df v m' ml/\fe=GL o.dst v tm)\/(cP ops o tm=false/\fe=GL o.dst undef tm/\m'=m/\ml=df))
theorem B4 {nt i:Nat}{ops:Array gU}{rest f:iE}(h:Ty P nt ops i rest=some f){call:cB}{tm:Tm}{m:Mem}{df:Df}{r:Ss}(hf:f call tm m df=some r):
  ∃fe m' ml,qL P call nt ops i tm m df fe m' ml/\rest call fe m' ml=some r:=by
 unfold Ty at h
 split at h
 ·cases h
 ·rename_i o ho
  split at h
  ·rename_i hg
   split at h
   ·cases h
   ·rename_i op dq;have hs:=Ke dq;have nO:∀x∈o.op.operands,rI nt P.globals.size x=true:=fun x hx=>aB.1 hg x (by simpa using hx)
    split at h
    ·rename_i jV;have hw:∀tm,cP ops o tm=true:=fun tm=>by unfold cP;rw[jV]
     split at h
     ·rename_i d hd;obtain⟨adI,h⟩:=ju h;cases h;obtain⟨v,m',ml,hk,MF⟩:=hs _ _ _ _ _ _ hf;refine⟨_,m',ml,⟨o,ho,⟨nO,fun d' w6=>by rw[hd]at w6;cases w6;exact adI⟩,fun j w hj=>(by rw[jV]at hj;cases hj),.inl ⟨hw tm,v,MF,rfl⟩⟩,?_⟩;rw[hd];exact hk
     ·rename_i hd;cases h;obtain⟨v,m',ml,hk,MF⟩:=hs _ _ _ _ _ _ hf;refine⟨_,m',ml,⟨o,ho,⟨nO,fun d' w6=>by rw[hd]at w6;cases w6⟩,fun j w hj=>(by rw[jV]at hj;cases hj),.inl ⟨hw tm,v,MF,rfl⟩⟩,?_⟩;rw[hd];exact hk
    ·rename_i j want jV
     split at h
     ·rename_i g Y4
      split at h
      ·rename_i hgn;rw[kl,jQ]at hgn;obtain⟨ahR,h⟩:=ju h;have hgs:∀j' w,o.guard=some (j',w)->∃g,(ops[j']?).bind (·.dst)=some g/\g<nt/\g<512:=fun j' w hj=>by rw[jV]at hj;cases hj;exact⟨g,Y4,hgn,ahR⟩
       have hw:∀tm,cP ops o tm=(match cY g tm with | .bool b=>b==want|_=>false):=fun tm=>by unfold cP;rw[jV];simp only[Y4]<;>rfl
       split at h
       ·rename_i d hd;obtain⟨adI,h⟩:=ju h;cases h;have hdd:∀d',o.dst=some d'->d'<512:=fun d' w6=>by rw[hd]at w6;cases w6;exact adI
        have skip:cP ops o tm=false->rest call (tJ d undef tm) m df=some r->∃fe m' ml,qL P call nt ops i tm m df fe m' ml/\rest call fe m' ml=some r:=fun DU hr=>
         ⟨_,m,df,⟨o,ho,⟨nO,hdd⟩,hgs,.inr ⟨DU,rfl,rfl,rfl⟩⟩,by rw[hd];exact hr⟩
        have go:cP ops o tm=true->op call tm m df (X7 (tJ d) rest call tm)=some r->∃fe m' ml,qL P call nt ops i tm m df fe m' ml/\rest call fe m' ml=some r:=fun Ai hr=>by
         obtain⟨v,m',ml,hk,MF⟩:=hs _ _ _ _ _ _ hr;exact⟨_,m',ml,⟨o,ho,⟨nO,hdd⟩,hgs,.inl ⟨Ai,v,MF,rfl⟩⟩,by rw[hd];exact hk⟩
        unfold Hn at hf
        split at hf
        ·rename_i hb;cases want with
         |true=>exact go (by rw[hw,hb];rfl) hf
         |false=>exact skip (by rw[hw,hb];rfl) hf
        ·rename_i hb;cases want with
         |true=>exact skip (by rw[hw,hb];rfl) hf
         |false=>exact go (by rw[hw,hb];rfl) hf
        ·rename_i nD my;refine skip ?_ hf;rw[hw]
         split
         ·rename_i b hb;cases b
          ·exact absurd hb my
          ·exact absurd hb nD
         ·rfl
       ·rename_i hd;cases h;have hdd:∀d',o.dst=some d'->d'<512:=fun d' w6=>by rw[hd]at w6;cases w6
        have skip:cP ops o tm=false->rest call tm m df=some r->∃fe m' ml,qL P call nt ops i tm m df fe m' ml/\rest call fe m' ml=some r:=fun DU hr=>
         ⟨_,m,df,⟨o,ho,⟨nO,hdd⟩,hgs,.inr ⟨DU,rfl,rfl,rfl⟩⟩,by rw[hd];exact hr⟩
        have go:cP ops o tm=true->op call tm m df (noK rest call tm)=some r->∃fe m' ml,qL P call nt ops i tm m df fe m' ml/\rest call fe m' ml=some r:=fun Ai hr=>by
         obtain⟨v,m',ml,hk,MF⟩:=hs _ _ _ _ _ _ hr;exact⟨_,m',ml,⟨o,ho,⟨nO,hdd⟩,hgs,.inl ⟨Ai,v,MF,rfl⟩⟩,by rw[hd];exact hk⟩
        unfold Hm at hf
        split at hf
        ·rename_i hb;cases want with
         |true=>exact go (by rw[hw,hb];rfl) hf
         |false=>exact skip (by rw[hw,hb];rfl) hf
        ·rename_i hb;cases want with
         |true=>exact skip (by rw[hw,hb];rfl) hf
         |false=>exact go (by rw[hw,hb];rfl) hf
        ·rename_i nD my;refine skip ?_ hf;rw[hw]
         split
         ·rename_i b hb;cases b
          ·exact absurd hb my
          ·exact absurd hb nD
         ·rfl
      ·cases h
     ·cases h
  ·cases h
end
end Go.AM
namespace Go.AM
open Go Go.Conc
def Perm.or(R E:Perm):Perm:=⟨fun b o=>R.rd b o\/E.rd b o,fun b o=>R.wr b o\/E.wr b o,fun b=>R.ob b\/E.ob b,R.deaf⟩
structure w7 (R:Perm)(w:au):Prop where
 rd:∀b o,R.rd b o->b<w.heap.size
 wr:∀b o,R.wr b o->R.rd b o
 ob:∀b,R.ob b->b<w.heap.size/\w.shape? b=none
theorem w7.keeps{R R':Perm}{w aO:au}(h:w7 R w)(k:bj R' w aO):w7 R aO:=
 ⟨fun b o x=>aW (h.rd b o x) k.size,h.wr,fun b x=>⟨aW (h.ob b x).1 k.size,by rw[k.shape b (h.ob b x).1];exact(h.ob b x).2⟩⟩
theorem bj.sub{R R':Perm}{w aO:au}(h:bj R w aO)(hr:∀b o,R'.rd b o->R.rd b o)(ho:∀b,R'.ob b->R.ob b):bj R' w aO:=
 ⟨h.tape,h.os,h.output,h.size,h.shape,fun b o x=>h.cell b o (hr b o x),h.qU,fun b x=>h.obj b (ho b x)⟩
theorem bj.left{R E:Perm}{w aO:au}(h:bj (R.or E) w aO):bj R w aO:=h.sub (fun _ _=> .inl) fun _=> .inl
theorem bj.right{R E:Perm}{w aO:au}(h:bj (R.or E) w aO):bj E w aO:=h.sub (fun _ _=> .inr) fun _=> .inr
def EvW (R:Perm)(e:Event):Prop:=nT R e\/e.loc= .mark .disable\/e.loc= .mark .enable
structure Stepped (P:aD)(main:Bool)(R:Perm)(g:ak)(w:au)(R':Perm)(g':ak)(w':au)(es:Array Event):Prop where
 step:stepG P main g w= .go g' w' es
 Pn:tE R w.heap.size w w'
 ev:∀e∈es,EvW R e
 within:eJ R R' w.heap.size
 deaf:R'.deaf=deafBehind R.deaf es
 low:w7 R w->w7 R' w'
structure gj (P:aD)(main:Bool)(J:Nat->Perm->ak->au->Prop):Prop where
 mono:∀{n:Nat}{R:Perm}{g:ak}{w:au},J n R g w->J (n+1) R g w
 step:∀{n:Nat}{R:Perm}{g:ak}{w:au},g.status= .running->(∀aO,bj R w aO->∃g' w' es R',Stepped P main R g aO R' g' w' es/\J n R' g' w')->J (n+1) R g w
theorem gj.le{P:aD}{main:Bool}{J:Nat->Perm->ak->au->Prop}(h:gj P main J){n m:Nat}(hn:n<=m){R:Perm}{g:ak}{w:au}(hj:J n R g w):J m R g w:=by
 induction hn with
 |refl=>exact hj
 |step _ ih=>exact h.mono ih
theorem oz (d:Nat):∀(l:List Event),(∀e∈l,e.loc≠ .mark .disable/\e.loc≠ .mark .enable)->deafBehind d l.toArray=d:=by
 intro l h;unfold deafBehind;simp only[List.foldl_toArray]
 induction l with
 |nil=>rfl
 |cons e l ih=>
  have h1:=h e de;simp only[List.foldl_cons];refine Eq.trans (congrArg (fun x=>List.foldl _ x l) ?_) (ih fun x hx=>h x (by simp[hx]))
  split
  ·rename_i hh;exact absurd hh h1.1
  ·rename_i hh;exact absurd hh h1.2
  ·rfl
theorem nT.loc{R:Perm}{e:Event}(h:nT R e):e.loc≠ .mark .disable/\e.loc≠ .mark .enable:=by
 constructor<;>intro hl<;>unfold nT at h<;>rw[hl]at h<;>exact h
theorem kL {R:Perm}{es:Array Event}(h:∀e∈es,nT R e)(d:Nat):deafBehind d es=d:=by
 have :=oz d es.toList fun e he=>(h e (by simpa using he)).loc
 simpa using this
structure Apart (E R:Perm)(w:au):Prop where
 cell:∀b o,E.rd b o->b<w.heap.size/\¬R.wr b o
 obj:∀b,E.ob b->b<w.heap.size/\¬R.ob b/\w.shape? b=none
 wf:∀b o,E.wr b o->E.rd b o
theorem Apart.within{E R R':Perm}{w w':au}(h:Apart E R w)(k:eJ R R' w.heap.size)(hs:w.heap.size<=w'.heap.size)(fG:∀b,b<w.heap.size->w'.shape? b=w.shape? b):Apart E R' w':=
 ⟨fun b o he=>⟨aW (h.cell b o he).1 hs,fun hw=>(k.wr b o hw).elim (h.cell b o he).2 fun hn=>absurd (h.cell b o he).1 aj⟩,
  fun b he=>⟨aW (h.obj b he).1 hs,fun hw=>(k.ob b hw).elim (h.obj b he).2.1 fun hn=>absurd (h.obj b he).1 aj,by rw[fG b (h.obj b he).1];exact(h.obj b he).2.2⟩,h.wf⟩
theorem Apart.abp{E R:Perm}{w w':au}(h:Apart E R w)(c:tE R w.heap.size w w'):bj E w w':=
 ⟨c.tape,c.os,c.output,c.size,fun b hb=>c.shape b hb,fun b o he=>c.cell b o (h.cell b o he).1 (h.cell b o he).2,fun b o hb=>c.qU b o hb,fun b he=>c.obj b (h.obj b he).1 (h.obj b he).2.1 (h.obj b he).2.2⟩
def ApC (E:Perm)(ρ:dh)(m:Mem):Prop:=∀b p x,ρ b=some p->m.base<=b->p.d<=x->x<p.d+p.room->m.nK b (x-p.d)->¬E.rd p.c x
theorem TC {m m':Mem}(hf:Fr m m')(hw:Wf m){b o:Nat}(hb:b<m.next)(h:m'.nK b o):m.nK b o:=by
 obtain⟨h1,h2,h3⟩:=h;have hh:bz m.bl b o=false:=by rw[<-hf.bl];exact h2
 have live:o<(m.blk b).cs.length->∃v,(m.blk b).cs[o]?=some (some v):=fun ho=>by
  have e:=List.getElem?_eq_getElem ho;cases hv:(m.blk b).cs[o]with
  |none=>exact absurd hv ((hw.live b).1 _ (List.getElem_mem ho))
  |some v=>exact⟨v,by rw[e,hv]⟩
 rcases hf.blk b with e|⟨_,h4|⟨_,_,_,h4⟩|⟨_,_,h4,h5⟩|⟨_,h4,_⟩⟩
 ·rw[e]at h1;exact⟨h1,hh,live⟩
 ·omega
 ·rw[h4]at h1;cases h1
 ·rw[h5]at h1;exact absurd h1 h4
 ·exact⟨h4,hh,live⟩
theorem ApC.step{E:Perm}{ρ bu:dh}{m m':Mem}{w:au}(h:ApC E ρ m)(hw:Wf m)(ha:Apart E (az ρ m) w)(hf:Fr m m')(hold:∀b,b<m.next->bu b=ρ b)(hwi:eJ (az ρ m) (az bu m') w.heap.size):ApC E bu m':=by
 intro b p x hp hb h1 h2 h3 he
 by_cases cC:b<m.next
 ·rw[hold b cC]at hp;exact h b p x hp (by rw[<-hf.base];exact hb) h1 h2 (TC hf hw cC h3) he
 ·rcases hwi.wr p.c x ⟨b,p,hp,rfl,h1,h2,h3,.inl (by rw[hf.floor];have :=hw.fl;omega)⟩with g|g
  ·exact(ha.cell _ _ he).2 g
  ·have :=(ha.cell _ _ he).1;omega
structure cU (P:aD)(E:Perm)(bq:au)(σ:nF)(ρ:dh)(m:Mem)(w:au):Prop where
 jY:fH ρ m w
 rest:bj E bq w
 apart:Apart E (az ρ m) w
 oj:∀g,g<P.globals.size->∃p,ρ g=some p/\p.c=g/\p.d=0
 fI:GOk σ ρ m
 wf:Wf m
 Nq:ApC E ρ m
 ew:∀b o,E.wr b o->¬(az ρ m).rd b o
theorem fH.low{ρ:dh}{m:Mem}{w:au}(h:fH ρ m w):w7 (az ρ m) w:=by
 refine⟨fun b o hr=>?_,fun b o hr=>lX hr,fun b hr=>?_⟩
 ·obtain⟨x,p,h1,rfl,_⟩:=hr;exact h.rG x p h1
 ·obtain⟨x,p,h1,rfl,h2,h3⟩:=hr;refine⟨h.rG x p h1,?_⟩;rcases h2 with h2|h2
  ·obtain⟨es,h4,_⟩:=h.maps x p h1 h2 h3;unfold au.shape?;rw[h4]
  ·obtain⟨_,h4⟩:=h.lD x p h1 h2 h3;unfold au.shape?;rw[h4]
section
variable {P:aD}{E:Perm}{bq:au}{σ:nF}{ρ:dh}{m:Mem}{w:au}
theorem Cl (h:fH ρ m w)(a:Apart E (az ρ m) w):w7 ((az ρ m).or E) w:=
 ⟨fun b o x=>x.elim (h.low.rd b o) fun y=>(a.cell b o y).1,fun b o x=>x.elim (fun y=> .inl (h.low.wr b o y)) fun y=> .inr (a.wf b o y),fun b x=>x.elim (h.low.ob b) fun y=>⟨(a.obj b y).1,(a.obj b y).2.2⟩⟩
theorem cU.low(h:cU P E bq σ ρ m w):w7 ((az ρ m).or E) w:=Cl h.jY h.apart
theorem cU.keeps{aO:au}(h:cU P E bq σ ρ m w)(k:bj ((az ρ m).or E) w aO):cU P E bq σ ρ m aO:=
 ⟨h.jY.keeps k.left,h.rest.trans k.right,h.apart.within (eJ.refl _ _) k.size k.shape,h.oj,h.fI,h.wf,h.Nq,h.ew⟩
theorem cU.left{bu:dh}{m':Mem}{w':au}(h:cU P E bq σ ρ m w)(l:Left ρ m w bu m' w')(f:jk m m')(c:tE (az ρ m) w.heap.size w w'):cU P E bq σ bu m' w':=
 ⟨l.jY,h.rest.trans (h.apart.abp c),h.apart.within l.within c.size c.shape,fun g hg=>let⟨p,h1,h2⟩:=h.oj g hg;⟨p,l.le _ _ h1,h2⟩,h.fI.fr f.1 l.le l.old,f.2.2 h.wf,h.Nq.step h.wf h.apart f.1 l.old l.within,
  fun b o he hr=>(l.within.rd b o hr).elim (h.ew b o he) fun hN=>by have :=(h.apart.cell b o (h.apart.wf b o he)).1;omega⟩
theorem eJ.or{R R' E:Perm}{N:Nat}(h:eJ R R' N):eJ (R.or E) (R'.or E) N:=
 ⟨fun b o x=>x.elim (fun y=>(h.rd b o y).imp .inl id) fun y=> .inl (.inr y),fun b o x=>x.elim (fun y=>(h.wr b o y).imp .inl id) fun y=> .inl (.inr y),fun b x=>x.elim (fun y=>(h.ob b y).imp .inl id) fun y=> .inl (.inr y)⟩
theorem tE.or{R E:Perm}{N:Nat}{w w':au}(h:tE R N w w'):tE (R.or E) N w w':=
 ⟨h.tape,h.os,h.output,h.size,h.shape,fun b o hb hw=>h.cell b o hb fun x=>hw (.inl x),h.qU,fun b hb ho=>h.obj b hb fun x=>ho (.inl x)⟩
theorem nT.or{R E:Perm}{e:Event}(h:nT R e):nT (R.or E) e:=by
 unfold nT at h⊢
 split at h
 ·refine⟨h.1,?_⟩
  split
  ·rename_i hw;have :=h.2;rw[bC hw]at this;exact .inl this
  ·rename_i hw;have :=h.2;rw[bS hw]at this;exact .inl this
 ·exact⟨.inl h.1,h.2⟩
 ·exact h
 ·exact h
theorem mJ {main:Bool}{J:Nat->Perm->ak->au->Prop}(hJ:gj P main J){R:Perm}{g g':ak}{n:Nat}(hr:g.status= .running)(hs:∀w,stepG P main g w= .go g' w #[])
  (h:∀aO,bj R w aO->J n R g' aO):J (n+1) R g w:=
 hJ.step hr fun aO hk=>⟨g',aO,#[],R,⟨hs aO,tE.refl _ _ _,fun e he=>by simp at he,eJ.refl _ _,rfl,id⟩,h aO hk⟩
variable {main:Bool}{J:Nat->Perm->ak->au->Prop}{b:Frame}{a:Act}{k:List Item}{cs:List Frame}{ops:Array gU}{i:Nat}{rest:List Nat}{o:gU}
theorem A2 (hJ:gj P main J)(ho:ops[i]?=some o)(hw:Region.wanted o (yielded ops a.tmps)=true)(hk:b.kind≠ .early)(H:cU P E bq σ ρ m w){ev:bX->ae}
  (dS:∀x∈o.op.operands,aQ ρ (ev x) (a.eval x)){v:ae}{m':Mem}(dq:dx P ev o m=some (v,m')){l:Nat}
  (hn:∀bu v' w',ρ.le bu->(∀b,b<m.next->bu b=ρ b)->cU P E bq σ bu m' w'->aQ bu v v'->J l ((az bu m').or E) (G (b.at (a.put o.dst v') (.inRegion ops rest::k)) cs) w'):
  J (l+1) ((az ρ m).or E) (G (b.at a (.inRegion ops (i::rest)::k)) cs) w:=by
 refine hJ.step rfl fun aO jU=>?_
 have gq:=H.keeps jU;have DV:=Tw dq;obtain⟨nx,w',hY,⟨bu,hL,v',hv,hy⟩,hc,he⟩:=mF (ai _) (Fi gq.jY (ai _) dS dq);obtain⟨evs,zo,er⟩:=he #[];have mr:∀e∈listed P b.fn a o aO,nT (az ρ m) e:=fun e hx=>er e (by have :=mem_listed hx;rw[zo]at this;simpa using this)
 have hH:=gq.left hL DV hc;have xT:=hn bu v' w' hL.le hL.old hH hv;have eD:∀g',stepG P main (G (b.at a (.inRegion ops (i::rest)::k)) cs) aO= .go g' w' (listed P b.fn a o aO)->
   Stepped P main ((az ρ m).or E) (G (b.at a (.inRegion ops (i::rest)::k)) cs) aO ((az bu m').or E) g' w' (listed P b.fn a o aO):=fun g' hs=>
  ⟨hs,hc.or,fun e hx=> .inl (mr e hx).or,hL.within.or,by
   show m'.deaf=deafBehind m.deaf _
   rw[kL mr,DV.2.1],fun _=>hH.low⟩
 rcases hy with rfl|⟨rfl,rfl,rfl⟩
 ·exact⟨_,w',_,_,eD _ (stepG_value ho hw hk hY),xT⟩
 ·exact⟨_,w',_,_,eD _ (stepG_none ho hw hk hY),xT⟩
theorem qN (hJ:gj P main J)(ho:ops[i]?=some o)(hw:Region.wanted o (yielded ops a.tmps)=false){R:Perm}{l:Nat}
  (hn:∀aO,bj R w aO->J l R (G (b.at (a.put o.dst undef) (.inRegion ops rest::k)) cs) aO):J (l+1) R (G (b.at a (.inRegion ops (i::rest)::k)) cs) w:=
 mJ hJ rfl (fun w=>stepG_unwanted ho hw) hn
end
end Go.AM
