/-
  What the claim stands on, part 10.
-/
import Derived.Test.YtgfppohfgconeaaGreatDoorN9
import Derived.Sort.LotD3
import Derived.Sort.LotD5
import Derived.Sort.LotC
import Derived.Sort.LotA
import Derived.Sort.LotB
set_option linter.unusedVariables false
set_option linter.unusedSimpArgs false
open Go.Proofs.Tryz renaming prog → ab
open Go renaming Value → ae, TypeId → aM, IntKind → bX
open Nat renaming le_of_ble_eq_true → af, le_refl → ai, eq_of_beq_eq_true → az, lt_of_lt_of_le → a8, le_trans → cF
open Bool renaming and_eq_true → ag
open Prod.mk renaming injEq → au
open Option renaming map_eq_some_iff → aB, bind_some → aX, map_some → cT
open List renaming all_eq_true → aE, mem_cons → aR
namespace Go.AM
set_option maxRecDepth 1000000
open Go Go.Conc Go.Proofs
def Zw:T ae->Option ae
 | .cond v _=>some v
 |_=>none
theorem SF (T:ByteArray):Zw (xK ab X0 22 [.string T])=some (.bool (sV (T.size:Int) 4000)):=bG
theorem abc:((22::tFs).all fun f=>jO f&&!Nat.beq f X0.yv&&!Nat.beq f X0.mD)=true:=bG
theorem Zi {cl:bJ}{tr:T ae}{m:Mem}(h:Zw tr=some (.bool false)):den cl tr m=den cl (Zx tr) m:=by
 cases tr with
 |cond v k=>
  have h:v= .bool false:=Option.some.inj h;subst h;rfl
 |_=>cases h
def A8 (N:Nat)(l:List (List ae×ae)):Prop:=∀x∈l,∃mg,gJ ab X0 N 28 x.1 kz=some (x.2,mg)/\mg.deaf=0/\plain x.2=true/\x.1.all cG=true
theorem abd {f:Nat}(hf:f∈22::tFs):jO f=true/\Nat.beq f X0.yv=false/\Nat.beq f X0.mD=false:=by
 have :=aE.1 abc f hf;simp only[ag,Bool.not_eq_true']at this;exact⟨this.1.1,this.1.2,this.2⟩
theorem MC {f n:Nat}{cw tw:bJ}{args:List ae}{m m':Mem}{v:ae}(hf:jO f=true/\Nat.beq f X0.yv=false/\Nat.beq f X0.mD=false)(ht:tw f args m=none)(h:den (pO ab X0 cw tw n) (xK ab X0 f args) m=some (v,m')):pO ab X0 cw tw (n+1) f args m=some (v,m'):=by
 obtain⟨p1,p2,p3⟩:=hf;unfold pO;rw[ht];simp only[p2,p3];unfold jO at p1
 split at p1
 ·rename_i fn GY
  split at p1
  ·rename_i c hc;rw[ag]at p1;exact r8 GY hc p1.1 p1.2 h
  ·cases p1
 ·cases p1
theorem SG {fs:List Nat}{n N:Nat}{cw:bJ}{T:ByteArray}{t t':List ae}{l:List (List ae×ae)}{v:ae}{m m':Mem}(hf:∀f∈22::fs,jO f=true/\Nat.beq f X0.yv=false/\Nat.beq f X0.mD=false)(hc:Zw (xK ab X0 22 [.string T])=some (.bool false))(hr:lA (Ey fs n) (Zx (xK ab X0 22 [.string T])) m t=some (l,v,m',t'))(hw:A8 N l):
  pO ab X0 cw (yy N) (n+1) 22 [.string T] m=some (v,m'):=by
 obtain⟨tr,ht⟩:∃tr,tr=xK ab X0 22 [.string T]:=⟨_,rfl⟩;rw[<-ht]at hc hr;have hd:den (pO ab X0 cw (yy N) n) (Zx tr) m=some (v,m'):=
  zH (G:=fun x=>∀m,vm m=true->yy N 28 x.1 m=some (x.2,m)) (H0 (fs:=fs) (cw:=cw) (tw:=yy N) (fun f args m h=>Et (N:=N) h) (fun f h=>hf f (.tail _ h)) n) _ _ _ hr fun x hx m hm=>by
   obtain⟨mg,q1,q2,q3,q4⟩:=hw x hx;exact XE q1 q2 q3 q4 hm
 refine MC (tw:=yy N) (hf 22 (.head _)) (Et (N:=N) gC) ?_;rw[<-ht,Zi hc];exact hd
theorem XX {al sg tg:Bool}{N:Nat}{T:ByteArray}(hT:T.size<=4000){a z:Nat->Nat}{x y w:Int}(hw:A8 N (KO T z 0 (tWs al sg tg a z x y w))){cw:bJ}:
  ∃mq,pO ab X0 cw (yy N) (40+1) 22 [.string T] kz=some (tV al sg tg,mq)/\LB (0::(tL al sg tg x y w).map (·.1)) (tV al sg tg,mq)=(tV al sg tg,(12,12,12),([],[]),true,0,tNx al sg tg,kP {kind:=1,cs:=de}::(tL al sg tg x y w).map fun b=>kP b.2):=by
 have h:=Po al sg tg T a z x y w;generalize hl:KO T z 0 (tWs al sg tg a z x y w)=la at h hw;obtain⟨⟨l,v,m',t'⟩,hr,e⟩:=aB.1 h;simp only[au]at e;obtain⟨e1,e2⟩:=e;have ev:v=tV al sg tg:=congrArg Prod.fst e2;subst ev;subst e1;have hc:Zw (xK ab X0 22 [.string T])=some (.bool false):=by
  rw[SF,r7,qV aj]
 exact⟨m',SG (fun f h=>abd h) hc hr hw,e2⟩
end Go.AM
namespace Go.AM
set_option maxRecDepth 1000000
open Go Go.Conc Go.Proofs
theorem cp.append{α:Type}{Q:α->ae->Prop}:∀{l l':List α}{cs gL:List ae},cp Q l cs->cp Q l' gL->cp Q (l++l') (cs++gL)
 | [],l',cs,gL,h,h'=>by have h:cs=[]:=h;rw[h];exact h'
 |x::l,l',cs,gL,⟨v,rest,e,hq,h⟩,h'=>⟨v,rest++gL,by rw[e,List.append_assoc],hq,cp.append h h'⟩
theorem Calm.own{m:Mem}(h:Calm m){b:Nat}(hb:m.base<=b):Own m b:=by
 unfold Own Mem.fq;rw[h.bB,h.floor]
 show(true&&decide (m.base<=b)&&(decide (m.base<=b)|| _))=true
 rw[vc hb];rfl
theorem alQ {K:gI}(hK:Ej K){M:Mem}{w:Nat}(hw:M.wg=some w)(hd:M.deaf=0)(ho:M.opn=[])(hb:M.base<=M.next):Ev K 140 [vP w 0] M (.tuple #[]) (B6 M):=by
 refine⟨1,fun A n _ hn=>?_⟩;obtain⟨n,rfl⟩:∃k,n=k+1:=⟨n-1,aj⟩;rw[hK.wait];unfold EX;rw[hw]
 show(if w=w/\M.deaf=0/\M.opn=[]/\Nat.ble M.base M.next=true then _ else none)=_
 rw[bK ⟨rfl,hd,ho,Nat.ble_eq_true_of_le hb⟩];rfl
end Go.AM
namespace Go.AM
set_option maxRecDepth 1000000
open Go Go.Conc Go.Proofs
section
variable {K:gI}{m:Mem}
theorem ajI (i t2 t3 pr n cc:Nat)(sv iv rv:ae)(e:Int):Path 253 [sv,vI i,vP t2 0,vP t3 0]
 [.mem (aT t2 0) iv,
  .mem (aT t3 0) (vL pr 0 n cc),
  .idx i n i,
  pT,
  .call 111 [sv,iv,vP pr (0+i*6)] (.tuple #[rv,vI e])]
 (.tuple #[rv,vI e]):=fu
theorem agx (d:Nat)(bW:Nat):Path 201 [vP d 0,.nilIface]
 [dZ [some .nilIface] bW,
  .mem (aT bW 0) .nilIface,
  lN]
 (vI 0):=fu
theorem afo (d b2 sn sc i:Nat)(sa:Option Addr):eA 149 [3] 0 99 [1,2,24,25,26] [vP d 0,vP b2 0,.slice sa sn sc,vI sn,vI i]
 [bu (eX i sn) false]
 (.exit 0) [1,2] [vP d 0,vP b2 0]:=iD
theorem afn (d b2 n cc:Nat)(a:Option Addr)(w iv rv:ae)(e:Int):eS 149 4 99 [1,2] [vP d 0,vP b2 0]
 [.mem (aT b2 1) w,
  .call 201 [vP d 0,w] (vI 0),
  dH,
  .mem (aT d 8) (.slice a n cc),
  bu (sV n 1000) false,
  .mem (aT b2 2) iv,
  .call 202 [vP d 0,iv] (.tuple #[rv,vI e])]
 .ret [4,5] [rv,vI e]:=iD
theorem agJ:lF 149 2 [4,5]=true:=bG
theorem PO:(dK (bV 149)).length<=99:=af bG
theorem Yj:iW (bV 149) 3=some (0,(fT 149 [3])):=bG
theorem NL:tI 149 [3]:=bG
theorem Ym:kl (jx 149) (bV 149) (fT 149 [3]) 3 0=true:=bG
theorem aip {d:Nat}(g:Gd m):∃m',Ev K 201 [vP d 0,.nilIface] m (vI 0) m'/\Kp m m' eQ:=by
 obtain⟨m1,e1,o1,k1,_⟩:=aY g [.nilIface];have l1:aT m.next 0 m1=some (.nilIface,m1):=aO o1 rfl;exact⟨m1,aJ (agx d _) (.mem e1<| .mem l1<| .cond rfl .nil),k1⟩
def Wm:List ae:=[.slice none 0 0,vI 0,.slice none 0 0,vI 0,.slice none 0 0,vI 0,.slice none 0 0,vI 0,.slice none 0 0,.slice none 0 0,vI 0,.slice none 0 0,vI 0,.slice none 0 0,vI 0,.slice none 0 0,vI 0,.slice none 0 0]
end
end Go.AM
namespace Go.AM
set_option maxRecDepth 1000000
open Go Go.Conc Go.Proofs
structure Tb where
 p:Nat
 fG:List AK
end Go.AM
namespace Go.AM
set_option maxRecDepth 1000000
open Go Go.Conc Go.Proofs
theorem aQ.done{K:gI}{nt:Nat}{c:Code}{i:Nat}{st:Ss}(h:(dK c).length<=i):aQ K nt c i st .normal st:=by
 unfold aQ;rw[List.drop_of_length_le h];exact⟨0,fun _ _ _ _=>⟨wY,rfl,rfl⟩⟩
noncomputable def ss(nt:Nat)(c b:Code)(i id:Nat):Bool:=codeOk nt b&&(comp ab nt 1000 (.block id b)).isSome
theorem aQ.adR{K:gI}{nt:Nat}{c b:Code}{i id:Nat}{st jB zJ:Ss}{e e':Exit}(hl:oR c i=some (id,b))(ep:ss nt c b i id=true)(h:aQ K nt b 0 st e' jB)(he:e'= .normal\/e'= .exit id)(k:aQ K nt c (i+1) jB e zJ):aQ K nt c i st e zJ:=by
 unfold ss at ep;rw[ag]at ep;exact aQ.block hl h he (gy ep.1).1 (gy ep.1).2.1 ep.2 k
theorem aQ.MF{K:gI}{nt:Nat}{c b:Code}{i id:Nat}{st jB:Ss}(hl:oR c i=some (id,b))(ep:ss nt c b i id=true)(h:aQ K nt b 0 st .ret jB)(hr:(pW nt ((dK c).drop (i+1))).isSome=true):aQ K nt c i st .ret jB:=by
 unfold ss at ep;rw[ag]at ep;exact aQ.QL hl h (gy ep.1).1 (gy ep.1).2.1 ep.2 hr
end Go.AM
namespace Go.AM
set_option maxRecDepth 1000000
open Go Go.Conc Go.Proofs
section
variable {K:gI}{m:Mem}
theorem ajS (p n cc:Nat)(rv:ae)(bW:Nat):Path 150 [vL p 0 n cc]
 [dH,
  .mem (bI ab 29 0 []) (vL bW 0 0 0),
  .mem (cJ ab #[29,29] (vL bW 0 0 0) (vL p 0 n cc)) rv]
 rv:=fu
theorem aae:lF 152 5 []=true:=bG
theorem NV:iW (bV 152) 2=some (0,(fT 152 [2])):=bG
theorem Gj:tI 152 [2]:=bG
theorem NW:kl (jx 152) (bV 152) (fT 152 [2]) 2 0=true:=bG
theorem aad:lF 205 4 []=true:=bG
theorem AU:tI 205 [1]:=bG
theorem afx (d un uc i:Nat)(ua:Option Addr)(rv:ae):eA 115 [6] 0 99 [1,8,26,27,28] [vP d 0,rv,.slice ua un uc,vI un,vI i]
 [bu (eX i un) false]
 (.exit 0) [8] [rv]:=iD
theorem afw (rv:ae):eS 115 7 99 [8] [rv]
 []
 .ret [4,5] [rv,vI 0]:=iD
theorem agK:lF 115 2 [4,5]=true:=bG
theorem PR:(dK (bV 115)).length<=99:=af bG
theorem X5:tI 115 [6]:=bG
theorem Ls:(dK (bV 205)).length<=2:=af bG
theorem adO {m:Mem}:bI ab 29 0 [] m=some (vL m.next 0 0 0,m.alloc {kind:=1,sz:=1,cs:=[]}):=bG
end
end Go.AM
namespace Go.AM
set_option maxRecDepth 1000000
open Go Go.Conc Go.Proofs
abbrev El:=ae×List V
instance:Inhabited El:=⟨(undef,[])⟩
def ltR (x y:El):Bool:=eX (cC x.2 y.2) 0
structure Sv (B:Nat->Prop)(p n:Nat)(rest:List ae)(m:Mem)(d:Array El):Prop where
 gd:Gd m
 ob:Obj m p 1 (d.toList.map (·.1)++rest)
 ow:Own m p
 sz:d.size=n
 nb:¬B p
 el:∀x∈d.toList,bS.R B x.2 m x.1/\x.2.length<99999
def rp (k:Nat)(v:ae)(b:Bool)(L:List pS):List pS:=match k with
 |0=>L
 |k+1=> .cond v b::rp k v b L
theorem Ch.rp{K:gI}{m m':Mem}{v:ae}{b:Bool}{L:List pS}(h:v= .bool b)(c:Ch K m L m'):∀{k:Nat},Ch K m (AM.rp k v b L) m'
 |0=>c
 |k+1=> .cond h (Ch.rp h c)
theorem bT {b:Bool}(h:b=true):(.bool b:ae)= .bool true:=congrArg _ h
theorem bF {b:Bool}(h:b=false):(.bool b:ae)= .bool false:=congrArg _ h
theorem XH {i j:Nat}(h:j<=i)(hi:i<2^60:=by omega):jH i j=((i-j:Nat):Int):=by rw[AN ⟨aj,aj⟩];omega
theorem MQ {i j:Nat}(h:i+j<2^60:=by omega):eh i j=((i+j:Nat):Int):=by rw[j6 ⟨aj,aj⟩];omega
theorem Tu {i j:Nat}(h:i*j<2^60:=by omega):jq i j=((i*j:Nat):Int):=by
 have e:((i*j:Nat):Int)=(i:Int)*(j:Int):=Int.natCast_mul i j;rw[Gs (by rw[<-e];exact⟨aj,aj⟩),e]
theorem XI {k:Nat}(hi:k+1<2^60:=by omega):jH (k+1:Nat) 1=(k:Int):=XH (i:=k+1) (j:=1) aj aj
theorem H2 {k:Nat}(hi:k+1<2^60:=by omega):eh k 1=((k+1:Nat):Int):=MQ (i:=k) (j:=1) aj
theorem Q8 {i j:Nat}:eX i j=decide (i<j):=by rw[eH];exact decide_eq_decide.2 aj
theorem Ku {i j:Nat}:sV i j=decide (j<i):=by rw[r7];exact decide_eq_decide.2 aj
theorem leN {i j:Nat}:GH i j=decide (i<=j):=by rw[U2];exact decide_eq_decide.2 aj
theorem Rk {i j:Nat}:xJ i j=decide (j<=i):=by rw[vR];exact decide_eq_decide.2 aj
theorem dT {p:Prop}[Decidable p]{b:Bool}(h:b=decide p)(hp:p:=by omega):(.bool b:ae)= .bool true:=by rw[h,vc hp]
theorem dF {p:Prop}[Decidable p]{b:Bool}(h:b=decide p)(hp:¬p:=by omega):(.bool b:ae)= .bool false:=by rw[h,qV hp]
section
variable {K:gI}{B:Nat->Prop}{p n:Nat}{rest:List ae}{m m':Mem}{d:Array El}
theorem Sv.ext(h:Sv B p n rest m d)(k:Kp m m' eQ):Sv B p n rest m' d:=
 ⟨h.gd.ext k,h.ob.aU k,h.ow.ext k,h.sz,h.nb,fun x hx=>⟨bS.ext (h.el x hx).1 k fun _ _ h=>h,(h.el x hx).2⟩⟩
theorem Sv.mem(h:Sv B p n rest m d){i:Nat}(hi:i<n):d[i]!∈d.toList:=by
 have h':=h.sz;rw[getElem!_pos d i aj];exact Array.getElem_mem_toList _
theorem Sv.ld(h:Sv B p n rest m d){i:Nat}(hi:i<n:=by omega):aT p (0+i*1) m=some (d[i]!.1,m):=by
 have h':=h.sz;refine aO h.ob ?_;rw[Nat.zero_add,Nat.mul_one,List.getElem?_append_left (by simp;omega),List.getElem?_map,getElem!_pos d i aj];simp;exact⟨_,Array.getElem?_eq_getElem aj⟩
theorem Sv.cmp(h:Sv B p n rest m d){i j:Nat}(hi:i<n:=by omega)(hj:j<n:=by omega):
  ∃c m',Ev K 117 [d[i]!.1,d[j]!.1] m (vI c) m'/\Kp m m' eQ/\Sv B p n rest m' d/\eX c 0=ltR d[i]! d[j]!:=by
 obtain⟨⟨b1,c1,e1,_,o1,G2⟩,l1⟩:=h.el _ (h.mem hi);obtain⟨⟨b2,c2,e2,_,o2,Mh⟩,l2⟩:=h.el _ (h.mem hj);rw[e1,e2];obtain⟨m',e,k⟩:=alT (K:=K) h.gd (o1.sl (iq _) G2) (o2.sl (iq _) Mh) l1;exact⟨_,m',e,k,h.ext k,rfl⟩
end
theorem aeW (p n cc a b i k:Nat)(x y:ae)(c:Int):eA 205 [1,2,1] 0 99 [0,1,2,3,8,9] [vL p 0 n cc,vI a,vI b,.func (.func 117) #[] #[],vI i,vI (k+1:Nat)]
 ((rp 4 (.bool (sV (k+1:Nat) a)) true (.idx (k+1:Nat) n (k+1)::bu (sV (k+1:Nat) a) true:: .mem (aT p (0+(k+1)*1)) x::(rp 4 (.bool (sV (k+1:Nat) a)) true ([.idx (jH (k+1:Nat) 1) n k,
  bu (sV (k+1:Nat) a) true,
  .mem (aT p (0+k*1)) y,
  pT,
  bu (sV (k+1:Nat) a) true,
  .fw (.func (.func 117) #[] #[]) [x,y] (vI c),
  bu (sV (k+1:Nat) a) true,
  bu (sV (k+1:Nat) a) true,
  bu (eX c 0) false])))))
 (.exit 2) [0,1,2,3,8] [vL p 0 n cc,vI a,vI b,.func (.func 117) #[] #[],vI i]:=iD
theorem ae1 (p n cc a b i:Nat):eA 205 [1] 0 99 [0,1,2,3,8] [vL p 0 n cc,vI a,vI b,.func (.func 117) #[] #[],vI i]
 [bu (eX i b) false]
 (.exit 0) [] []:=iD
theorem ae0 (p n cc a b i:Nat):eA 205 [1] 0 2 [0,1,2,3,8] [vL p 0 n cc,vI a,vI b,.func (.func 117) #[] #[],vI i]
 [bu (eX i b) true]
 .normal [0,1,2,3,8] [vL p 0 n cc,vI a,vI b,.func (.func 117) #[] #[],vI i]:=iD
theorem aeZ (p n cc a b i:Nat):eA 205 [1,2] 0 1 [0,1,2,3,8] [vL p 0 n cc,vI a,vI b,.func (.func 117) #[] #[],vI i]
 []
 .normal [0,1,2,3,8,9] [vL p 0 n cc,vI a,vI b,.func (.func 117) #[] #[],vI i,vI i]:=iD
theorem aeY (p n cc a b i:Nat):eA 205 [1] 3 99 [0,1,2,3,8] [vL p 0 n cc,vI a,vI b,.func (.func 117) #[] #[],vI i]
 []
 .normal [0,1,2,3,8] [vL p 0 n cc,vI a,vI b,.func (.func 117) #[] #[],vI (eh i 1)]:=iD
theorem aeX (p n cc a b:Nat):eS 205 0 1 [0,1,2,3] [vL p 0 n cc,vI a,vI b,.func (.func 117) #[] #[]]
 []
 .normal [0,1,2,3,8] [vL p 0 n cc,vI a,vI b,.func (.func 117) #[] #[],vI (eh a 1)]:=iD
theorem II:tI 205 [1,2,1]:=bG
theorem QN:oR (fT 205 [1]) 2=some (1,(fT 205 [1,2])):=bG
theorem QK:ss (jx 205) (fT 205 [1]) (fT 205 [1,2]) 2 1=true:=bG
section
variable {K:gI}{B:Nat->Prop}{p n cc:Nat}{rest:List ae}{m:Mem}{d:Array El}
abbrev fR:ae:= .func (.func 117) #[] #[]
end
end Go.AM
namespace Go.AM
set_option maxRecDepth 1000000
open Go Go.Conc Go.Proofs
theorem agh (p n cc a b s:Nat)(x y:ae)(c:Int):Path 274 [vL p 0 n cc,vI a,vI b,vP s 0,fR]
 [.idx b n b,
  .mem (aT p (0+b*1)) y,
  .idx a n a,
  .mem (aT p (0+a*1)) x,
  pT,
  .fw fR [y,x] (vI c),
  bu (eX c 0) false]
 (.tuple #[vI a,vI b]):=fu
theorem ajG (p n cc a b c s a1 b1 b2 c1 a2 b3:Nat):Path 258 [vL p 0 n cc,vI a,vI b,vI c,vP s 0,fR]
 [.call 274 [vL p 0 n cc,vI a,vI b,vP s 0,fR] (.tuple #[vI a1,vI b1]),
  .call 274 [vL p 0 n cc,vI b1,vI c,vP s 0,fR] (.tuple #[vI b2,vI c1]),
  .call 274 [vL p 0 n cc,vI a1,vI b2,vP s 0,fR] (.tuple #[vI a2,vI b3])]
 (vI b3):=fu
theorem ajH (p n cc a s r:Nat):Path 257 [vL p 0 n cc,vI a,vP s 0,fR]
 [.call 258 [vL p 0 n cc,vI (jH a 1),vI a,vI (eh a 1),vP s 0,fR] (vI r)]
 (vI r):=fu
theorem aeU (p n cc a b q:Nat)(bW:Nat):eS 208 0 6 [0,1,2,3] [vL p 0 n cc,vI a,vI b,fR]
 [dZ [some (vI 0)] bW,
  .val (j0 Nat.div .i64 (jH b a) 4 (jC ab .quo 3 false true (vI (jH b a)) (vI 4))) (vI q),
  .val (j0 Nat.div .i64 (jH b a) 4 (jC ab .quo 3 false true (vI (jH b a)) (vI 4))) (vI q),
  .val (j0 Nat.div .i64 (jH b a) 4 (jC ab .quo 3 false true (vI (jH b a)) (vI 4))) (vI q)]
 .normal [0,3,10,11,12,13,14] [vL p 0 n cc,fR,vI (jH b a),vP bW 0,vI (eh a (jq q 1)),vI (eh a (jq q 2)),vI (eh a (jq q 3))]:=iD
theorem aeT (p n cc l s i j k j2:Nat):eS 208 6 8 [0,3,10,11,12,13,14] [vL p 0 n cc,fR,vI l,vP s 0,vI i,vI j,vI k]
 [bu (xJ l 8) true,
  bu (xJ l 50) false,
  .call 258 [vL p 0 n cc,vI i,vI j,vI k,vP s 0,fR] (vI j2)]
 .normal [11,13] [vP s 0,vI j2]:=iD
theorem aeS (p n cc l s i j k i1 j1 k1 j2:Nat):eS 208 6 8 [0,3,10,11,12,13,14] [vL p 0 n cc,fR,vI l,vP s 0,vI i,vI j,vI k]
 [bu (xJ l 8) true,
  bu (xJ l 50) true,
  .call 257 [vL p 0 n cc,vI i,vP s 0,fR] (vI i1),
  .call 257 [vL p 0 n cc,vI j,vP s 0,fR] (vI j1),
  .call 257 [vL p 0 n cc,vI k,vP s 0,fR] (vI k1),
  .call 258 [vL p 0 n cc,vI i1,vI j1,vI k1,vP s 0,fR] (vI j2)]
 .normal [11,13] [vP s 0,vI j2]:=iD
theorem aeR (s j w:Nat):eS 208 8 99 [11,13] [vP s 0,vI j]
 [.mem (aT s 0) (vI w),
  bu (cN w 0) true]
 .ret [8,9] [vI j,vI 1]:=iD
theorem agG:lF 208 4 [8,9]=true:=bG
theorem PL:(dK (bV 208)).length<=99:=af bG
section
variable {K:gI}{B:Nat->Prop}{p n cc:Nat}{rest:List ae}{m m':Mem}{d:Array El}
theorem afG {i:Nat}(hi:i<90000){j:Nat}(hj:0<j){d:Option ae}:j0 Nat.div .i64 i j d=some (vI (i / j:Nat)):=by
 obtain⟨j,rfl⟩:∃k,j=k+1:=⟨j-1,aj⟩;unfold j0
 show(match Nat.blt i (iI .i64)with |true=>some (ae.int .i64 (.ofNat (Nat.div i (Nat.succ j))))|false=>d)=_
 have :Nat.blt i (iI .i64)=true:=by
  rw[show iI .i64=9223372036854775808 from rfl,jz,jE];omega
 rw[this];rfl
end
end Go.AM
namespace Go.AM
set_option maxRecDepth 1000000
open Go Go.Conc Go.Proofs
theorem aew (x:Nat):bX.u64.wrap x=((x%18446744073709551616:Nat):Int):=by
 unfold bX.wrap;simp[bX.signed,bX.bits]
abbrev vW (n:Int):ae:= .int .u64 n
theorem aiZ (t x k:Nat)(hk:k<64):jC ab .shr t false true (vW x) (vW k)=some (vW (x / 2^k:Nat)):=by
 have e:jC ab .shr t false true (vW x) (vW k)=some (vW ((x:Int).fdiv (2^(min k 64)))):=by
  refine w8 rfl ?_ rfl;rw[gk]
  show(Op.shift .shr .u64 x .u64 k).aI ab=_
  unfold Op.shift;rw[bZ aj];rfl
 rw[e,Nat.min_eq_left aj,Int.fdiv_eq_ediv_of_nonneg _ (Int.pow_nonneg gC)];simp
theorem cvW {t x:Nat}(hx:x<18446744073709551616)(ht:t=195\/t=415):pu ab [vI x] (convert 3 t (vI x))=some (vW x):=by
 have e:pu ab [vI x] (convert 3 t (vI x))=some (vW (bX.u64.wrap x)):=by
  rcases ht with rfl|rfl<;>kernel_rfl
 rw[e,aew,Nat.mod_eq_of_lt hx]
def FU:ByteArray:=⟨((List.range 256).map fun n=>UInt8.ofNat (Sort.bitsLen n)).toArray⟩
theorem Ez:FU.size=256:=bG
theorem RZ:((List.range 256).all fun y=>cU FU y==Sort.bitsLen y)=true:=bG
theorem M9 {y:Nat}(h:y<256):cU FU y=Sort.bitsLen y:=by simpa using aE.1 RZ y (List.mem_range.2 h)
theorem WE {l:Nat}(h:256<=l):Sort.bitsLen l=Sort.bitsLen (l / 256)+8:=by
 have k:∀k,Sort.bitsLen l<=k↔Sort.bitsLen (l / 256)+8<=k:=fun k=>by
  rw[Sort.bitsLen_le_iff]
  by_cases hk:8<=k
  ·obtain⟨j,rfl⟩:∃j,k=j+8:=⟨k-8,aj⟩;rw[show Sort.bitsLen (l / 256)+8<=j+8↔Sort.bitsLen (l / 256)<=j by omega,Sort.bitsLen_le_iff,Nat.pow_add,Nat.div_lt_iff_lt_mul gC]
  ·have :2^k<=2^8:=Nat.pow_le_pow_right gC aj
   constructor<;>intro <;>omega
 exact Nat.le_antisymm ((k _).2 (ai _)) ((k _).1 (ai _))
theorem agA (l k:Nat):Path 153 [.int .u64 l]
 [dH,
  .call 214 [.int .u64 l] (vI k)]
 (vI k):=fu
theorem agu (l h y k:Nat):Path 214 [.int .u64 l]
 [bu (xJ l 4294967296) false,
  bu (xJ l 65536) false,
  bu (xJ l 256) false,
  .val (pu ab [.int .u64 l] (convert 262 5 (.int .u64 l))) (.int .u8 y),
  .idx y FU.size y,
  .val (pu ab [.int .u8 (cU FU y:Nat)] (convert 5 3 (.int .u8 (cU FU y:Nat)))) (vI k)]
 (vI (eh 0 k)):=fu
theorem agt (l h y k:Nat):Path 214 [.int .u64 l]
 [bu (xJ l 4294967296) false,
  bu (xJ l 65536) false,
  bu (xJ l 256) true,
  .val (jC ab .shr 262 false true (.int .u64 l) (.int .u64 8)) (.int .u64 h),
  .val (pu ab [.int .u64 h] (convert 262 5 (.int .u64 h))) (.int .u8 y),
  .idx y FU.size y,
  .val (pu ab [.int .u8 (cU FU y:Nat)] (convert 5 3 (.int .u8 (cU FU y:Nat)))) (vI k)]
 (vI (eh 8 k)):=fu
section
variable {K:gI}{m:Mem}
theorem cv8 {x:Nat}(h:x<256):pu ab [vW x] (convert 262 5 (vW x))=some (.int .u8 x):=by
 have e:pu ab [vW x] (convert 262 5 (vW x))=some (.int .u8 (bX.u8.wrap x)):=bG;rw[e,show bX.u8.wrap x=x by unfold bX.wrap;simp[bX.signed,bX.bits];omega]
theorem cv9 {x:Nat}(h:x<256):pu ab [.int .u8 x] (convert 5 3 (.int .u8 x))=some (vI x):=by
 have e:pu ab [.int .u8 x] (convert 5 3 (.int .u8 x))=some (vI (bX.i64.wrap x)):=bG;rw[e,oE ⟨aj,aj⟩]
theorem A7 {l:Nat}(h:l<256):Sort.bitsLen l<256:=Nat.lt_of_le_of_lt ((Sort.bitsLen_le_iff l 8).2 h) gC
theorem alK {l:Nat}(h:l<65536):Ev K 214 [vW l] m (vI (Sort.bitsLen l:Int)) m:=by
 by_cases h8:l<256
 ·have :=aJ (K:=K) (m:=m) (m':=m) (agu l 0 l (Sort.bitsLen l)) (.cond (dF (Rk (j:=4294967296)))<| .cond (dF (Rk (j:=65536)))<| .cond (dF (Rk (j:=256)))<| .val (cv8 h8)<| .idx rfl (by rw[Ez];exact h8)<| .val (by rw[M9 h8];exact cv9 (A7 h8)) .nil);rwa[show eh 0 (Sort.bitsLen l:Nat)=((0+Sort.bitsLen l:Nat):Int)from MQ (i:=0) (by have :=A7 h8;omega),Nat.zero_add]at this
 ·have hh:l / 256<256:=aj;have :=aJ (K:=K) (m:=m) (m':=m) (agt l (l / 256) (l / 256) (Sort.bitsLen (l / 256))) (.cond (dF (Rk (j:=4294967296)))<| .cond (dF (Rk (j:=65536)))<| .cond (dT (Rk (j:=256)))<| .val (aiZ 262 l 8 gC)<| .val (cv8 hh)<| .idx rfl (by rw[Ez];exact hh)<| .val (by rw[M9 hh];exact cv9 (A7 hh)) .nil);rwa[show eh 8 ((Sort.bitsLen (l / 256):Nat):Int)=((8+Sort.bitsLen (l / 256):Nat):Int)from MQ (i:=8) (by have :=A7 hh;omega),Nat.add_comm,<-WE aj]at this
theorem ait {l:Nat}(h:l<65536):Ev K 153 [vW l] m (vI (Sort.bitsLen l:Int)) m:=aJ (agA l _) (.cond rfl<| .call (alK h) .nil)
end
end Go.AM
namespace Go.AM
set_option maxRecDepth 1000000
open Go Go.Conc Go.Proofs
theorem aeO (p n cc a b k j:Nat)(x y:ae)(c:Int):eA 210 [3,2,0] 0 99 [0,1,2,3,9,10] [vL p 0 n cc,vI a,vI b,fR,vI (k+1:Nat),vI j]
 ((rp 4 (.bool (eX (k+1:Nat) b)) true (.idx (k+1:Nat) n (k+1)::bu (eX (k+1:Nat) b) true:: .mem (aT p (0+(k+1)*1)) x::(rp 4 (.bool (eX (k+1:Nat) b)) true (.idx (jH (k+1:Nat) 1) n k::bu (eX (k+1:Nat) b) true:: .mem (aT p (0+k*1)) y::pT::bu (eX (k+1:Nat) b) true:: .fw fR [x,y] (vI c)::(rp 3 (.bool (eX (k+1:Nat) b)) true ([bu (!(eX c 0)) true])))))))
 .normal [0,1,2,3,9,10] [vL p 0 n cc,vI a,vI b,fR,vI (eh (k+1:Nat) 1),vI j]:=iD
theorem aeN (p n cc a b k j:Nat):eA 210 [3,2,0] 0 99 [0,1,2,3,9,10] [vL p 0 n cc,vI a,vI b,fR,vI (k+1:Nat),vI j]
 ((rp 10 (.bool (eX (k+1:Nat) b)) false (pT::(rp 4 (.bool (eX (k+1:Nat) b)) false ([dH])))))
 (.exit 2) [0,1,2,3,9,10] [vL p 0 n cc,vI a,vI b,fR,vI (k+1:Nat),vI j]:=iD
theorem agF:lF 210 4 [8]=true:=bG
theorem Yi:iW (bV 210) 3=some (0,(fT 210 [3])):=bG
theorem X4:tI 210 [3]:=bG
theorem Yl:kl (jx 210) (bV 210) (fT 210 [3]) 3 0=true:=bG
theorem zT:tI 210 [3,2,0]:=bG
theorem QM:oR (fT 210 [3]) 2=some (1,(fT 210 [3,2])):=bG
theorem QJ:ss (jx 210) (fT 210 [3]) (fT 210 [3,2]) 2 1=true:=bG
end Go.AM
namespace Go.AM
set_option maxRecDepth 1000000
open Go Go.Conc Go.Proofs
theorem aeQ (p n cc a b:Nat):eS 210 0 3 [0,1,2,3] [vL p 0 n cc,vI a,vI b,fR]
 []
 .normal [0,1,2,3,9,10] [vL p 0 n cc,vI a,vI b,fR,vI (eh a 1),vI 0]:=iD
theorem aeP (p n cc a b i j:Nat):eA 210 [3] 0 2 [0,1,2,3,9,10] [vL p 0 n cc,vI a,vI b,fR,vI i,vI j]
 [bu (eX j 5) true]
 .normal [0,1,2,3,9,10] [vL p 0 n cc,vI a,vI b,fR,vI i,vI j]:=iD
theorem aeM (p n cc a b i j:Nat):eA 210 [3,2] 1 99 [0,1,2,3,9,10] [vL p 0 n cc,vI a,vI b,fR,vI i,vI j]
 [bu (cN i b) true]
 .ret [8] [.bool true]:=iD
end Go.AM
namespace Go.AM
set_option maxRecDepth 1000000
open Go Go.Conc Go.Proofs
theorem afl (p n cc a b DQ:Nat)(wb wp:Bool):eA 152 [2,0] 0 99 [0,1,2,3,4,10,11] [vL p 0 n cc,vI a,vI b,vI DQ,fR,.bool wb,.bool wp]
 [bu (GH (jH b a) 12) true,
  .call 205 [vL p 0 n cc,vI a,vI b,fR] (.tuple #[])]
 .ret [] []:=iD
theorem afk (p n cc a b DQ:Nat):eS 152 0 2 [0,1,2,3,4] [vL p 0 n cc,vI a,vI b,vI DQ,fR]
 []
 .normal [0,1,2,3,4,10,11] [vL p 0 n cc,vI a,vI b,vI DQ,fR,.bool true,.bool true]:=iD
theorem FC:oR (fT 152 [2]) 0=some (1,(fT 152 [2,0])):=bG
theorem FB:ss (jx 152) (fT 152 [2]) (fT 152 [2,0]) 0 1=true:=bG
end Go.AM
namespace Go.AM
set_option maxRecDepth 1000000
open Go Go.Conc Go.Proofs
structure uz {α:Type}(f:α->α->Int):Prop where
 eq:∀{x y},f x y=0↔x=y
 QS:∀{x y},f x y<0->0<f y x
 Ka:∀{x y},0<f x y->f y x<0
 trans:∀{x y z},f x y<0->f y z<0->f x z<0
theorem Hk:uz pM:=⟨by intros;unfold pM;split<;>(try split)<;>omega,by intro x y;unfold pM;split<;>(try split)<;>(try split)<;>(try split)<;>omega,by intro x y;unfold pM;split<;>(try split)<;>(try split)<;>(try split)<;>omega,by intro x y z;unfold pM;split<;>(try split)<;>(try split)<;>(try split)<;>(try split)<;>(try split)<;>omega⟩
theorem C8:∀x:List UInt8,Op.bytesLess x x=false
 | []=>rfl
 |a::x=>by simp[Op.bytesLess,C8 x]
theorem OV:∀{x y z:List UInt8},Op.bytesLess x y=true->Op.bytesLess y z=true->Op.bytesLess x z=true
 |_,[],_,h,_=>by simp[Op.bytesLess]at h
 |_,_::_,[],_,h=>by simp[Op.bytesLess]at h
 | [],_::_,_::_,_,_=>rfl
 |a::x,b::y,c::z,h1,h2=>by
  simp only[Op.bytesLess,Bool.or_eq_true,jE,ag,beq_iff_eq,UInt8.lt_iff_toNat_lt]at h1 h2⊢;rcases h1 with h1|⟨rfl,h1⟩
  ·rcases h2 with h2|⟨rfl,h2⟩
   ·exact .inl aj
   ·exact .inl h1
  ·rcases h2 with h2|⟨rfl,h2⟩
   ·exact .inl h2
   ·exact .inr ⟨rfl,OV h1 h2⟩
theorem WC:∀{x y:List UInt8},Op.bytesLess x y=false->Op.bytesLess y x=false->x=y
 | [],[],_,_=>rfl
 | [],_::_,h,_=>by simp[Op.bytesLess]at h
 |_::_,[],_,h=>by simp[Op.bytesLess]at h
 |a::x,b::y,h1,h2=>by
  simp only[Op.bytesLess,Bool.or_eq_false_iff,decide_eq_false_iff_not,UInt8.lt_iff_toNat_lt]at h1 h2;have e:a=b:=UInt8.toNat_inj.1 aj;subst e;rw[WC (x:=x) (y:=y) (by simpa using h1.2) (by simpa using h2.2)]
theorem Zy:uz CK:=by
 have e:∀{a b:ByteArray},(a.toList==b.toList)=true↔a=b:=fun{a b}=>by
  rw[beq_iff_eq,ByteArray.toList_eq,ByteArray.toList_eq];exact⟨fun h=>by cases a;cases b;simp_all [Array.toList_inj],fun h=>by rw[h]⟩
 refine⟨fun{x y}=>?_,fun{x y} h=>?_,fun{x y} h=>?_,fun{x y z} h k=>?_⟩
 ·unfold CK
  split
  ·rename_i h;exact⟨fun h=>(by cases h),fun k=>(by rw[k,C8]at h;cases h)⟩
  ·rename_i h;rw[Bool.not_eq_true]at h;rw[h,Bool.false_or]
   split
   ·rename_i k;exact⟨fun _=>e.1 k,fun _=>rfl⟩
   ·rename_i k;exact⟨fun h=>(by cases h),fun q=>absurd (e.2 q) k⟩
 ·unfold CK at h⊢
  split at h
  ·rename_i h1;rw[bZ (fun h2=>by have :=OV h1 h2;rw[C8]at this;cases this),bZ (fun h2=>?_)]
   ·decide
   ·rw[Bool.or_eq_true]at h2;rcases h2 with h2|h2
    ·have :=OV h1 h2;rw[C8]at this;cases this
    ·rw[e.1 h2,C8]at h1;cases h1
  ·split at h<;>exact absurd h gC
 ·unfold CK at h⊢
  split at h
  ·exact absurd h gC
  ·rename_i h1
   split at h
   ·exact absurd h gC
   ·rename_i h2;rw[Bool.or_eq_true,not_or]at h2;rw[bK]
    ·decide
    ·cases hb:Op.bytesLess y.toList x.toList with
     |true=>rfl
     |false=>exact absurd (beq_iff_eq.2 (WC (Bool.not_eq_true _▸h1) hb)) h2.2
 ·unfold CK at h k⊢
  split at h
  ·rename_i h1
   split at k
   ·rename_i k1;rw[bK (OV h1 k1)];decide
   ·split at k<;>exact absurd k gC
  ·split at h<;>exact absurd h gC
def lex {α β:Type}(f:α->α->Int)(g:β->β->Int)(x y:α×β):Int:=if f x.1 y.1≠0 then f x.1 y.1 else g x.2 y.2
theorem uz.lex{α β:Type}{f:α->α->Int}{g:β->β->Int}(hf:uz f)(hg:uz g):uz (AM.lex f g):=by
 refine⟨fun{x y}=>?_,fun{x y} h=>?_,fun{x y} h=>?_,fun{x y z} h k=>?_⟩
 ·unfold AM.lex
  split
  ·rename_i h;exact⟨fun k=>absurd k h,fun k=>absurd (hf.eq.2 (by rw[k])) h⟩
  ·rename_i h;rw[ne_eq,Decidable.not_not]at h;exact⟨fun k=>Prod.ext (hf.eq.1 h) (hg.eq.1 k),fun k=>hg.eq.2 (by rw[k])⟩
 ·unfold AM.lex at h⊢
  split at h
  ·have :=hf.QS h;rw[bK aj];exact this
  ·rename_i e;rw[ne_eq,Decidable.not_not]at e;rw[bZ (by rw[ne_eq,Decidable.not_not];exact hf.eq.2 (hf.eq.1 e).symm)];exact hg.QS h
 ·unfold AM.lex at h⊢
  split at h
  ·have :=hf.Ka h;rw[bK aj];exact this
  ·rename_i e;rw[ne_eq,Decidable.not_not]at e;rw[bZ (by rw[ne_eq,Decidable.not_not];exact hf.eq.2 (hf.eq.1 e).symm)];exact hg.Ka h
 ·unfold AM.lex at h k⊢
  split at h
  ·split at k
   ·have :=hf.trans h k;rw[bK aj];exact this
   ·rename_i e;rw[ne_eq,Decidable.not_not]at e;rw[<-hf.eq.1 e,bK aj];exact h
  ·rename_i e;rw[ne_eq,Decidable.not_not]at e;rw[hf.eq.1 e]
   split at k
   ·rw[bK aj];exact k
   ·rename_i e2;rw[bZ e2];exact hg.trans h k
theorem uz.pull{α β:Type}{f:β->β->Int}(hf:uz f){i:α->β}(hi:∀x y,i x=i y->x=y):uz fun x y=>f (i x) (i y):=
 ⟨fun{x y}=>⟨fun h=>hi _ _ (hf.eq.1 h),fun h=>hf.eq.2 (by rw[h])⟩,fun h=>hf.QS h,fun h=>hf.Ka h,fun h k=>hf.trans h k⟩
theorem oQ:uz mh:=by
 have h:=((Hk.lex (Hk.lex (Zy.lex Hk))).pull (α:=V) (i:=fun v=>(v.k,v.n,v.s,ve v.b)) fun x y e=>by
  obtain⟨a,b,c,d⟩:=x;obtain⟨a',b',c',d'⟩:=y;simp only[au]at e;obtain⟨rfl,rfl,rfl,e⟩:=e;have :d=d':=by cases d<;>cases d'<;>first |rfl|cases e
  rw[this])
 have e:mh=fun x y=>AM.lex pM (AM.lex pM (AM.lex CK pM)) (x.k,x.n,x.s,ve x.b) (y.k,y.n,y.s,ve y.b):=by
  funext x y
  simp only[mh,PH,AM.lex]
  split
  ·rfl
  ·split
   ·rfl
   ·split
    ·rfl
    ·split
     ·rfl
     ·rename_i h;rw[ne_eq,Decidable.not_not]at h;exact h.symm
 rw[e];exact h
theorem rH:∀{x y:List V},cC x y=0↔x=y
 | [],[]=>by simp[cC]
 | [],_::_=>by simp[cC]
 |_::_,[]=>by simp[cC]
 |a::x,b::y=>by
  unfold cC
  split
  ·rename_i h;exact⟨fun k=>absurd k h,fun k=>absurd (oQ.eq.2 (by cases k;rfl)) h⟩
  ·rename_i h;rw[ne_eq,Decidable.not_not]at h;rw[rH,oQ.eq.1 h];simp
theorem uh:∀{x y:List V},(cC x y<0->0<cC y x)/\(0<cC x y->cC y x<0)
 | [],[]=>by simp[cC]
 | [],_::_=>by simp[cC]
 |_::_,[]=>by simp[cC]
 |a::x,b::y=>by
  have a1:=oQ.QS (x:=a) (y:=b);have a2:=oQ.Ka (x:=a) (y:=b);have a3:mh a b=0->mh b a=0:=fun h=>oQ.eq.2 (oQ.eq.1 h).symm
  obtain⟨r1,r2⟩:=uh (x:=x) (y:=y);simp only[cC]
  split
  ·rw[bK aj];omega
  ·rw[bZ aj];exact⟨r1,r2⟩
theorem xW:∀{x y z:List V},cC x y<0->cC y z<0->cC x z<0
 | [],[],_,h,_=>by simp[cC]at h
 |_::_,[],_,h,_=>by simp[cC]at h
 |_,_::_,[],_,h=>by simp[cC]at h
 | [],_::_,_::_,_,_=>by simp[cC]
 |a::x,b::y,c::z,h,k=>by
  simp only[cC]at h k⊢
  split at h
  ·split at k
   ·have :=oQ.trans h k;rw[bK aj];exact this
   ·rename_i e;rw[ne_eq,Decidable.not_not]at e;rw[<-oQ.eq.1 e,bK aj];exact h
  ·rename_i e;rw[ne_eq,Decidable.not_not]at e;rw[oQ.eq.1 e]
   split at k
   ·rw[bK aj];exact k
   ·rename_i e2;rw[bZ e2];exact xW h k
theorem uQ:uz cC:=⟨rH,uh.1,uh.2,xW⟩
end Go.AM
namespace Go.AM
set_option maxRecDepth 1000000
open Go Go.Conc Go.Proofs
theorem agD (p n cc k:Nat):Path 116 [vL p 0 n cc,fR]
 [.val (pu ab [vI n] (convert 3 195 (vI n))) (.int .u64 n),
  .call 153 [.int .u64 n] (vI k),
  .call 152 [vL p 0 n cc,vI 0,vI n,vI k,fR] (.tuple #[])]
 (.tuple #[]):=fu
theorem aek {B:Nat->Prop}{m:Mem}:∀{l:List (List V)} {cs:List ae},cp (fun x u=>bS.R B x m u/\okV 1 u) l cs->∃d:List El,d.map (·.1)=cs/\d.map (·.2)=l/\∀x∈d,bS.R B x.2 m x.1
 | [],cs,h=>⟨[],h.symm,rfl,fun x hx=>by cases hx⟩
 |x::l,cs,h=>by
  obtain⟨u,rest,rfl,⟨q,_⟩,h⟩:=h;obtain⟨d,e1,e2,e3⟩:=aek h;obtain⟨b,c,rfl,q'⟩:=q;exact⟨(vL b 0 x.length c,x)::d,by rw[List.map_cons,e1];rfl,by rw[List.map_cons,e2],fun y hy=>by
   rcases aR.1 hy with rfl|hy
   ·exact⟨b,c,rfl,q'⟩
   ·exact e3 y hy⟩
def WR (K:gI)(l:List (List V)):Prop:=∀{B:Nat->Prop}{p cc:Nat}{rest:List ae}{m:Mem}{d:Array El},d.toList.map (·.2)=l->Sv B p l.length rest m d->(∀b,B b->b<m.next)->
  ∃m' d',Ev K 152 [vL p 0 l.length cc,vI (0:Nat),vI (l.length:Int),vI (Sort.bitsLen l.length:Int),fR] m (.tuple #[]) m'/\Kp m m' (fun y=>y=p)/\Sv B p l.length rest m' d'/\(d'.toList.map (·.2)).Perm l/\(d'.toList.map (·.2)).Pairwise fun x y=>cC x y<=0
section
variable {K:gI}{m:Mem}
theorem aiv (g:Gd m){B:Nat->Prop}{l:List (List V)}{p cc:Nat}{cs rest:List ae}(ob:Obj m p 1 (cs++rest))(hp:¬B p)(h3:cp (fun x u=>bS.R B x m u/\okV 1 u) l cs)(hw:Own m p)(hn:l.length<65536)(hs:WR K l)(hl:∀x∈l,x.length<99999)(hB:∀b,B b->b<m.next):
  ∃d m',Ev K 116 [vL p 0 l.length cc,fR] m (.tuple #[]) m'/\Kp m m' (fun y=>y=p)/\Sv B p l.length rest m' d/\(d.toList.map (·.2)).Perm l/\(d.toList.map (·.2)).Pairwise fun x y=>cC x y<=0:=by
 obtain⟨dl,rfl,Qg,hd⟩:=aek h3;have hlen:dl.length=l.length:=by rw[<-Qg,List.length_map]
 have wB:Sv B p l.length rest m dl.toArray:=⟨g,ob,hw,by simpa using hlen,hp,fun x hx=>⟨hd x (by simpa using hx),hl _ (by rw[<-Qg];exact List.mem_map.2 ⟨x,by simpa using hx,rfl⟩)⟩⟩;obtain⟨m1,d',e1,k1,s1,Cf,Aa⟩:=hs (cc:=cc) (by simpa using Qg) wB hB;exact⟨d',m1,aJ (agD p l.length cc _) (.val (cvW aj (.inl rfl))<| .call (ait hn)<| .call e1 .nil),k1,s1,Cf,Aa⟩
end
theorem Bx {l l':List (List V)}(h:l.Perm l')(h1:l.Pairwise fun x y=>cC x y<=0)(h2:l'.Pairwise fun x y=>cC x y<=0):l=l':=
 h.eq_of_pairwise (fun a b _ _ h1 h2=>by
  rcases Int.lt_or_eq_of_le h1 with h|h
  ·have :=uQ.QS h;omega
  ·exact rH.1 h) h1 h2
end Go.AM
namespace Go.AM
set_option maxRecDepth 1000000
open Go Go.Conc Go.Proofs
def mz {α:Type}(E:nB α)(sz:Nat)(BO BE:Nat->Prop)(m:Mem)(acc:List α)(sv:ae):Prop:=
 (acc=[]/\sv= .slice none 0 0)\/∃b cs rest,sv=vL b 0 acc.length fp/\(BO b/\¬BE b)/\Own m b/\Obj m b sz (cs++rest)/\cp (fun x u=>E.R BE x m u/\okV sz u) acc cs
section
variable {α:Type}{E:nB α}{sz t n len b:Nat}{m0 m m1:Mem}{acc:List α}{sv v x:ae}{S BO BE ZN B':Nat->Prop}{y:α}{old new rest:List ae}
theorem mz.ext(h:mz E sz BO BE m acc sv)(k:Kp m m1 S)(hS:∀b,BO b\/BE b->¬S b):mz E sz BO BE m1 acc sv:=by
 rcases h with h|⟨b,cs,rest,e,hb,hw,ob,ik⟩
 ·exact .inl h
 ·exact .inr ⟨b,cs,rest,e,hb,hw.ext k,ob.ext k (hS b (.inl hb.1)),ik.mono fun x u _ w=>⟨E.ext w.1 k fun y hy=>hS y (.inr hy),w.2⟩⟩
theorem mz.form(h:mz E sz BO BE m acc sv):∃a c,sv= .slice a acc.length c:=by
 rcases h with⟨rfl,rfl⟩|⟨b,cs,rest,rfl,_⟩<;>exact⟨_,_,rfl⟩
theorem mz.one(h:mz E sz BO BE m acc sv):mH sv=true:=by obtain⟨a,c,rfl⟩:=h.form;rfl
theorem mz.first(h:mz E sz BO BE m acc sv):∃cs,kr m sz acc.length sv=some cs/\B4 sv=some acc.length/\cp (fun x u=>E.R BE x m u/\okV sz u) acc cs:=by
 rcases h with⟨rfl,rfl⟩|⟨b,cs,rest,rfl,hb,hw,ob,ik⟩
 ·exact⟨[],rfl,rfl,rfl⟩
 ·have hl:=ik.one.1;refine⟨cs,?_,rfl,ik⟩
  show m.dv b 0 (acc.length*sz)=some cs
  exact ji ob (by simp[<-hl]) (by simp;omega)
theorem J9 (g:Gd m)(ht:sZ.contains (t,sz)=true)(hf:kr m sz n x=some new)(hl:B4 x=some n)(hlen:new.length=n*sz)(h1:∀y∈new,y.oneCell'=true)(hn:n≠0)(hb:n<=2^30):
  ∃m',cJ ab #[t,t] (.slice none 0 0) x m=some (vL m.next 0 n fp,m')/\Obj m' m.next sz new/\Kp m m' eQ/\m'.next=m.next+1:=by
 obtain⟨e,h3,h4,h0,h5⟩:=uu ht;have km:(new.all (·.oneCell'))=true:=aE.2 h1;have e0:kr m sz 0 (.slice none 0 0)=some []:=rfl;obtain⟨k1,k2,k3⟩:=gB g (k:={kind:=1,sz:=sz,cs:=new.map some}) (cs:=new) rfl rfl rfl;refine⟨_,?_,k1,k2,k3⟩;unfold cJ;simp only[show(#[t,t]:Array aM)[0]?=some t from rfl,show(#[t,t]:Array aM)[1]?=some t from rfl,aX,h3,h4,hl,hf];rw[bZ (by rw[h5 _ aj,hlen,km];simp),bZ gC,bZ aj];simp only[e0,List.length_nil,Nat.zero_mul,if_true,List.nil_append,Nat.zero_add]
theorem Da (g:Gd m)(ht:sZ.contains (t,sz)=true)(ho:Obj m b sz (old++rest))(YM:old.length=len*sz)(hw:Own m b)(hf:kr m sz n x=some new)(hl:B4 x=some n)(hlen:new.length=n*sz)(h1:∀y∈new,y.oneCell'=true)(hb:len+n<=2^30):
  ∃m',cJ ab #[t,t] (vL b 0 len fp) x m=some (vL m.next 0 (len+n) fp,m')/\Obj m' m.next sz (old++new)/\Kp m m' (fun y=>y=b)/\m'.next=m.next+1:=by
 obtain⟨e,h3,h4,h0,h5⟩:=uu ht;have km:(new.all (·.oneCell'))=true:=aE.2 h1;have htk:fY (((old++rest).map some).drop 0) (len*sz)=some old:=by
  rw[List.drop_zero,kD (by simp;omega),<-YM];simp
 have g2:Gd (m.aZ b {}):=g.ext mS;obtain⟨k1,k2,k3⟩:=gB g2 (k:={kind:=1,sz:=sz,cs:=(old++new).map some}) (cs:=old++new) rfl rfl rfl;refine⟨_,?_,k1,Kp.aS mS k2,k3⟩;unfold cJ;simp only[show(#[t,t]:Array aM)[0]?=some t from rfl,show(#[t,t]:Array aM)[1]?=some t from rfl,aX,h3,h4,hl,hf];rw[bZ (by rw[h5 _ aj,hlen,km];simp),bK trivial];have pD:(((m.blk b).cs.drop 0).all (·.isSome))=true:=by rw[ho.cs];simp
 simp only[ho.kind,ho.sz,ho.cs]at pD⊢;rw[bK (by rw[pD,show m.fq b=true from hw];simp)];simp only[htk]
theorem J8 (ht:sZ.contains (t,sz)=true)(hf:kr m sz 0 x=some [])(hl:B4 x=some 0):cJ ab #[t,t] (.slice none 0 0) x m=some (.slice none 0 0,m):=by
 obtain⟨e,h3,h4,h0,h5⟩:=uu ht;unfold cJ;simp only[show(#[t,t]:Array aM)[0]?=some t from rfl,show(#[t,t]:Array aM)[1]?=some t from rfl,aX,h3,h4,hl,hf];rw[bZ (by rw[h5 _ aj];simp),bZ gC,bK (ai _)]
theorem mz.add(h:mz E sz BO BE m acc sv)(g:Gd m)(ht:sZ.contains (t,sz)=true)(hs6:sz<=6)(q:E.R B' y m v)(hd:∀b,BO b->¬B' b)(Jr:∀b,BE b->b<m.next)(Js:∀b,B' b->b<m.next)(ov:okV sz v)(hl:acc.length<2^30):
  ∃m2 m3 s',bI ab t 1 [(0,v)] m=some (vL m.next 0 1 1,m2)/\Gd m2/\Kp m m2 eQ/\cJ ab #[t,t] sv (vL m.next 0 1 1) m2=some (s',m3)/\Kp m m3 BO/\mz E sz (fun y=>y=m.next+1) (fun y=>BE y\/B' y) m3 (acc++[y]) s'/\(mH s'=true/\∃Hj,s'=vL (m.next+1) 0 (acc.length+1) fp/\Obj m3 (m.next+1) sz Hj/\cp (fun x u=>E.R (fun y=>BE y\/B' y) x m3 u/\okV sz u) (acc++[y]) Hj)/\m3.next=m.next+2:=by
 obtain⟨o2,k2,n2⟩:=gB g (k:={kind:=1,sz:=sz,cs:=v.cells.toList.map some}) (cs:=v.cells.toList) rfl rfl rfl;obtain⟨m2,yn⟩:∃m2,m2=m.alloc {kind:=1,sz:=sz,cs:=v.cells.toList.map some}:=⟨_,rfl⟩;have e2:=bs1 (m:=m) ht ov.1 hs6;rw[<-yn]at e2 o2 k2 n2;have g2:=g.ext k2;have ym:nm m2 (vL m.next 0 1 1) sz 1 v.cells.toList:=o2.sl (by simp[ov.1]) (.inr rfl);have q2:=E.ext q k2 fun _ _ h=>h
 have me:¬(BE m2.next\/B' m2.next):=fun h=>by
  rcases h with h|h
  ·have :=Jr _ h;omega
  ·have :=Js _ h;omega
 rcases h with⟨rfl,rfl⟩|⟨b,cs,rest,rfl,hb,hw,ob,ik⟩
 ·obtain⟨m3,e3,o3,k3,n3⟩:=OX g2 ht ym ov.2 gC gC;have hc:cp (fun x u=>E.R (fun y=>BE y\/B' y) x m3 u/\okV sz u) ([]++[y]) v.cells.toList:=⟨v,[],cY,⟨E.mono (E.ext q2 k3 fun _ _ h=>h) fun y hy=> .inr hy,ov⟩,rfl⟩;rw[n2]at o3 e3;refine⟨m2,m3,_,e2,g2,k2,e3,(k2.aS k3).vF,.inr ⟨m.next+1,_,[],rfl,⟨rfl,n2▸me⟩,g2.own k3 aj,by rw[List.append_nil];exact o3,hc⟩,⟨rfl,_,rfl,o3,hc⟩,aj⟩
 ·have ob2:=ob.aU k2;obtain⟨m3,e3,o3,k3,n3⟩:=Da (len:=acc.length) g2 ht ob2 ik.one.1 (hw.ext k2) (oU ym) ym.YA ym.1 ov.2 aj;have U':Kp m m3 (fun y=>y=b):=k2.vF.trans k3 fun _ _ h=>h
  have hc:cp (fun x u=>E.R (fun y=>BE y\/B' y) x m3 u/\okV sz u) (acc++[y]) (cs++v.cells.toList):=cp.snoc ⟨E.mono (E.ext q U' fun y hy e=>hd b hb.1 (e▸hy)) fun y hy=> .inr hy,ov⟩
   (ik.mono fun x u _ w=>⟨E.mono (E.ext w.1 U' fun y hy e=>hb.2 (e▸hy)) fun y hy=> .inl hy,w.2⟩)
  rw[n2]at o3 e3;refine⟨m2,m3,_,e2,g2,k2,e3,(k2.vF.trans (k3.mono fun y _ h=>by rw[h];exact hb.1) fun _ _ h=>h),.inr ⟨m.next+1,_,[],cY,⟨rfl,n2▸me⟩,g2.own k3 aj,by rw[List.append_nil];exact o3,hc⟩,⟨rfl,_,rfl,o3,hc⟩,aj⟩
theorem mz.jc(h:mz E sz BO BE m acc sv)(hE:E.Dl)(s1:sx BO m m1)(s2:sx BE m m1)(ow:∀b,BO b->Own m1 b):mz E sz BO BE m1 acc sv:=by
 rcases h with h|⟨b,cs,rest,e,hb,hw,ob,ik⟩
 ·exact .inl h
 ·exact .inr ⟨b,cs,rest,e,hb,ow b hb.1,ob.nF s1 hb.1,ik.mono fun x u _ w=>⟨hE _ _ _ _ _ w.1 s2,w.2⟩⟩
end
noncomputable def aaX(t:Nat):Bool:=match ab.underlying t with
 |some (.slice e)=>(match gO ab e,dV ab e with |some z,some s=>z.cells.size==s&&z.cells.toList.all (·.oneCell')|_,_=>false)
 |_=>false
theorem Pf {t:Nat}(h:aaX t=true):∃e z s,ab.underlying t=some (.slice e)/\gO ab e=some z/\dV ab e=some s/\z.cells.size=s/\∀y∈z.cells.toList,y.oneCell'=true:=by
 unfold aaX at h
 split at h
 ·rename_i e he
  split at h
  ·rename_i z s hz hs;rw[ag,beq_iff_eq,aE]at h;exact⟨e,z,s,he,hz,hs,h.1,h.2⟩
  ·cases h
 ·cases h
structure Kin (fl go sh ga em t:Nat):Prop where
 SN:∀(n cc:Nat) (a:Option Addr) (rv:ae),Path em [(.slice a n cc)] [.mem (mY ab #[t] (.slice a n cc)) (.tuple #[]),.mem (oc ab t (.slice a n cc) none (some (vI 0))) rv] rv
 abz:∀(d o fr to fs n cc:Nat) (cap:Array ae) (a:Option Addr) (sv:ae),uy (jx sh) (bV sh) 0 2 [0,1,2,3] [(vP d o),(vI (fr:Int)),(vI (to:Int)),(.func (.func fs) #[] cap)] [.mem (aT d o) (.slice a n cc),.call em [(.slice a n cc)] sv] .normal [0,2,3,8,9,10] [(vP d o),(vI (to:Int)),(.func (.func fs) #[] cap),sv,(vI 0),(vI (fr:Int))]
 aby:∀(d o to i fs:Nat) (cap:Array ae) (sv Nb:ae),uy (jx sh) (oH (bV sh) [2]) 0 99 [0,2,3,8,9,10] [(vP d o),(vI (to:Int)),(.func (.func fs) #[] cap),sv,(vI 0),(vI (i:Int))] ((rp 3 (.bool (eX (i:Int) (to:Int))) true ([.cond (.bool true) true,.fw (.func (.func fs) #[] cap) [sv,(vI (i:Int))] (.tuple #[Nb,(vI 0)])]))) .normal [0,2,3,8,9,10] [(vP d o),(vI (to:Int)),(.func (.func fs) #[] cap),Nb,(vI 0),(vI (eh (i:Int) 1))]
 abx:∀(d o to i fs:Nat) (cap:Array ae) (sv:ae),uy (jx sh) (oH (bV sh) [2]) 0 99 [0,2,3,8,9,10] [(vP d o),(vI (to:Int)),(.func (.func fs) #[] cap),sv,(vI 0),(vI (i:Int))] ((rp 3 (.bool (eX (i:Int) (to:Int))) false ([.cond (.bool false) false]))) (.exit 0) [0,8,9] [(vP d o),sv,(vI 0)]
 abw:∀(d o n cc:Nat) (a:Option Addr),uy (jx sh) (bV sh) 3 99 [0,8,9] [(vP d o),(.slice a n cc),(vI 0)] [.mem (jI d o (.slice a n cc)) undef,.mem (jI d (o+1) (vI 0)) undef] .normal [] []
 abE:∀(d q an ac bn bc:Nat) (aa ba:Option Addr),uy (jx ga) (bV ga) 0 3 [0] [(vP d q)] [.mem (aT d (q+8)) (.slice aa an ac),.call em [(.slice aa an ac)] (.slice ba bn bc),.mem (jI d (q+8) (.slice ba bn bc)) undef] .normal [0,13] [(vP d q),(vI 0)]
 abB:∀(d q i:Nat),uy (jx ga) (oH (bV ga) [3]) 0 99 [0,13] [(vP d q),(vI (i:Int))] [.cond (.bool (eX (i:Int) 4)) false] (.exit 0) [0] [(vP d q)]
 abD:∀(d q i an ac bn bc rn rc:Nat) (aa ba ra:Option Addr),uy (jx ga) (oH (bV ga) [3]) 0 99 [0,13] [(vP d q),(vI (i:Int))] [.cond (.bool (eX (i:Int) 4)) true,.idx (i:Int) 4 i,.mem (aT d (q+i*2+1)) (vI 0),.cond (.bool false) false,.mem (aT d (q+8)) (.slice aa an ac),.idx (i:Int) 4 i,.mem (aT d (q+i*2)) (.slice ba bn bc),.mem zQ undef,.mem (cJ ab #[t,t] (.slice aa an ac) (.slice ba bn bc)) (.slice ra rn rc),.mem zQ undef,.mem (jI d (q+8) (.slice ra rn rc)) undef] .normal [0,13] [(vP d q),(vI (eh (i:Int) 1))]
 abA:∀(d q:Nat) (rv:ae),uy (jx ga) (bV ga) 4 99 [0] [(vP d q)] [.mem (aT d (q+8)) rv] .ret [2,3] [rv,(vI 0)]
 abI:∀(d q rows fs b3 b5 b8 x:Nat) (cap:Array ae),uy (jx fl) (bV fl) 0 4 [0,1,2] [(vP d q),(vI (rows:Int)),(.func (.func fs) #[] cap)] [.mem (ni [some (vP d q)]) (vP b3 0),.mem (ni [some (.func (.func fs) #[] cap)]) (vP b5 0),.mem (ni [some (.int .u64 0),some (.int .u32 0)]) (vP b8 0),.val (j0 Nat.div .i64 (jH (eh (rows:Int) 4) 1) 4 (jC ab .quo 3 false true (vI (jH (eh (rows:Int) 4) 1)) (vI 4))) (vI (x:Int))] .normal [1,3,5,8,9,18] [(vI (rows:Int)),(vP b3 0),(vP b5 0),(vP b8 0),(vI (Kl true (x:Int) 8)),(vI 0)]
 abH:∀(rows b3 b5 b8 i bi bf bt:Nat) (size x:Int),uy (jx fl) (oH (bV fl) [4]) 0 99 [1,3,5,8,9,18] [(vI (rows:Int)),(vP b3 0),(vP b5 0),(vP b8 0),(vI size),(vI (i:Int))] [.cond (.bool (eX (i:Int) 4)) true,.mem (ni [some (vI 0)]) (vP bi 0),.mem (jI bi 0 (vI (i:Int))) undef,.mem (aT bi 0) (vI (i:Int)),.mem (ni [some (vI 0)]) (vP bf 0),.mem (jI bf 0 (vI (Kl false (jq (i:Int) size) (rows:Int)))) undef,.mem (aT bf 0) (vI x),.mem (ni [some (vI 0)]) (vP bt 0),.mem (jI bt 0 (vI (Kl false (eh x size) (rows:Int)))) undef,.call 137 [(vP b8 0),(.func (.func go) #[] #[(vP b3 0),(vP bi 0),(vP bf 0),(vP bt 0),(vP b5 0)])] (.tuple #[])] .normal [1,3,5,8,9,18] [(vI (rows:Int)),(vP b3 0),(vP b5 0),(vP b8 0),(vI size),(vI (eh (i:Int) 1))]
 abG:∀(rows b3 b5 b8 i:Nat) (size:Int),uy (jx fl) (oH (bV fl) [4]) 0 99 [1,3,5,8,9,18] [(vI (rows:Int)),(vP b3 0),(vP b5 0),(vP b8 0),(vI size),(vI (i:Int))] [.cond (.bool (eX (i:Int) 4)) false] (.exit 0) [3,8] [(vP b3 0),(vP b8 0)]
 abF:∀(b3 b8 d q:Nat) (rv:ae) (e:Int),uy (jx fl) (bV fl) 5 99 [3,8] [(vP b3 0),(vP b8 0)] [.call 140 [(vP b8 0)] (.tuple #[]),.mem (aT b3 0) (vP d q),.call ga [(vP d q)] (.tuple #[rv,(vI e)])] .ret [6,7] [rv,(vI e)]
 abC:∀(t0 t1 t2 t3 t4 d q i fr to fs:Nat) (cap:Array ae),Path go [(vP t0 0),(vP t1 0),(vP t2 0),(vP t3 0),(vP t4 0)] [.mem (aT t0 0) (vP d q),.mem (aT t1 0) (vI (i:Int)),.idx (i:Int) 4 i,.mem (aT t2 0) (vI (fr:Int)),.mem (aT t3 0) (vI (to:Int)),.mem (aT t4 0) (.func (.func fs) #[] cap),.mem zQ undef,.call sh [(vP d (q+i*2)),(vI (fr:Int)),(vI (to:Int)),(.func (.func fs) #[] cap)] (.tuple #[])] (.tuple #[])
 aca:lF sh 4 []=true
 UX:(dK (bV sh)).length<=99
 acr:iW (bV sh) 2=some (0,oH (bV sh) [2])
 ND:codeOk (jx sh) (oH (bV sh) [2])=true
 acx:kl (jx sh) (bV sh) (oH (bV sh) [2]) 2 0=true
 acb:lF ga 1 [2,3]=true
 UY:(dK (bV ga)).length<=99
 acs:iW (bV ga) 3=some (0,oH (bV ga) [3])
 NF:codeOk (jx ga) (oH (bV ga) [3])=true
 acy:kl (jx ga) (bV ga) (oH (bV ga) [3]) 3 0=true
 acd:lF fl 3 [6,7]=true
 UZ:(dK (bV fl)).length<=99
 acu:iW (bV fl) 4=some (0,oH (bV fl) [4])
 NG:codeOk (jx fl) (oH (bV fl) [4])=true
 acz:kl (jx fl) (bV fl) (oH (bV fl) [4]) 4 0=true
 spec:iE em=false/\iE sh=false/\iE go=false/\iE ga=false/\iE fl=false
 und:aaX t=true
 fill:go=X0.Fe\/go=X0.Fc
theorem agU:Kin 109 138 139 141 180 29 where
 SN:=fun _ _ _ _=>⟨bG,bG⟩
 abz:=fun _ _ _ _ _ _ _ _ _ _ _=>⟨bG,bG⟩
 aby:=fun _ _ _ _ _ _ _ _ _=>⟨bG,bG⟩
 abx:=fun _ _ _ _ _ _ _ _=>⟨bG,bG⟩
 abw:=fun _ _ _ _ _ _=>⟨bG,bG⟩
 abE:=fun _ _ _ _ _ _ _ _ _=>⟨bG,bG⟩
 abB:=fun _ _ _ _=>⟨bG,bG⟩
 abD:=fun _ _ _ _ _ _ _ _ _ _ _ _ _=>⟨bG,bG⟩
 abA:=fun _ _ _ _=>⟨bG,bG⟩
 abI:=fun _ _ _ _ _ _ _ _ _ _=>⟨bG,bG⟩
 abH:=fun _ _ _ _ _ _ _ _ _ _ _=>⟨bG,bG⟩
 abG:=fun _ _ _ _ _ _ _=>⟨bG,bG⟩
 abF:=fun _ _ _ _ _ _ _=>⟨bG,bG⟩
 abC:=fun _ _ _ _ _ _ _ _ _ _ _ _=>⟨bG,bG⟩
 aca:=bG
 acr:=bG
 ND:=bG
 acx:=bG
 acb:=bG
 acs:=bG
 NF:=bG
 acy:=bG
 acd:=bG
 acu:=bG
 NG:=bG
 acz:=bG
 UX:=af bG
 UY:=af bG
 UZ:=af bG
 spec:=⟨rfl,rfl,rfl,rfl,rfl⟩
 und:=bG
 fill:= .inl rfl
theorem agV:Kin 249 270 271 272 199 223 where
 SN:=fun _ _ _ _=>⟨bG,bG⟩
 abz:=fun _ _ _ _ _ _ _ _ _ _ _=>⟨bG,bG⟩
 aby:=fun _ _ _ _ _ _ _ _ _=>⟨bG,bG⟩
 abx:=fun _ _ _ _ _ _ _ _=>⟨bG,bG⟩
 abw:=fun _ _ _ _ _ _=>⟨bG,bG⟩
 abE:=fun _ _ _ _ _ _ _ _ _=>⟨bG,bG⟩
 abB:=fun _ _ _ _=>⟨bG,bG⟩
 abD:=fun _ _ _ _ _ _ _ _ _ _ _ _ _=>⟨bG,bG⟩
 abA:=fun _ _ _ _=>⟨bG,bG⟩
 abI:=fun _ _ _ _ _ _ _ _ _ _=>⟨bG,bG⟩
 abH:=fun _ _ _ _ _ _ _ _ _ _ _=>⟨bG,bG⟩
 abG:=fun _ _ _ _ _ _ _=>⟨bG,bG⟩
 abF:=fun _ _ _ _ _ _ _=>⟨bG,bG⟩
 abC:=fun _ _ _ _ _ _ _ _ _ _ _ _=>⟨bG,bG⟩
 aca:=bG
 acr:=bG
 ND:=bG
 acx:=bG
 acb:=bG
 acs:=bG
 NF:=bG
 acy:=bG
 acd:=bG
 acu:=bG
 NG:=bG
 acz:=bG
 UX:=af bG
 UY:=af bG
 UZ:=af bG
 spec:=⟨rfl,rfl,rfl,rfl,rfl⟩
 und:=bG
 fill:= .inr rfl
end Go.AM
namespace Go.AM
set_option maxRecDepth 1000000
open Go Go.Conc Go.Proofs
noncomputable def aal(nt:Nat)(rs:List ResultVar)(a t b:Nat):Bool:=match rs with
 | [.cell x y,.tmp z]=>Nat.beq x a&&Nat.beq y t&&Nat.beq z b&&Nat.blt a nt&&Nat.blt b nt
 |_=>false
noncomputable def Ml(f n a t b:Nat):Bool:=jO f&&codeOk (jx f) (bV f)&&aal (jx f) (rsT f) a t b&&Nat.ble n (jx f)&&Nat.ble n 16
theorem OB {K:gI}{f a t b q:Nat}{args:List ae}{m m':Mem}{fC:Tm}{e:Exit}{v u:ae}(ep:Ml f args.length a t b=true)(h:aQ K (jx f) (bV f) 0 ⟨entry args,m,[]⟩ e ⟨fC,m',[]⟩)(he:e= .normal\/e= .ret)(hg:dM [a,b] fC=[vP q 0,u])
  (hL:pz ab t (vP q 0) m'=some (v,m'))(hs:iE f=false:=by rfl):Ev K f args m (.tuple #[v,u]) m':=by
 unfold Ml at ep;simp only[ag]at ep;obtain⟨⟨⟨⟨h1,h2⟩,h3⟩,h4⟩,h5⟩:=ep;obtain⟨tt,ht⟩:=Ew (l:=args) (af h5);have Qf:entry args=tt:=by unfold entry;rw[ht]
 rw[Qf]at h;refine OG h1 (tm:=tt) (by rw[bK h4,ht]) (h.code h2) he ?_ hs;unfold aal at h3
 split at h3
 ·rename_i x y z hrs;simp only[ag]at h3;have e1:=az h3.1.1.1.1;have e2:=az h3.1.1.1.2;have e3:=az h3.1.1.2;subst e1 e2 e3;simp only[dM,List.map_cons,List.map_nil,List.cons.injEq,and_true]at hg;unfold lR;rw[hrs];unfold u2 u2 u2;rw[bK h3.1.2,bK h3.2,hg.1,hg.2];unfold pz at hL
  split at hL
  ·rename_i v' hv;cases hL;simp only[hv]
  ·cases hL
 ·cases h3
structure CS where
 p:Nat
 on:Option X
def Fl:nB CS where
 R B x m v:=∃o,v= .agg #[vP x.p 0,o]/\iJ.R B x.on m o
 mono:=by
  rintro B B' x m v ⟨o,e,h⟩ k;exact⟨o,e,iJ.mono h k⟩
 ext:=by
  rintro B S x m m' v ⟨o,e,h⟩ k hs;exact⟨o,e,iJ.ext h k hs⟩
structure Q0 where
 mc:List CS
 wh:Option X
 rM:List X
def jZ:nB Q0 where
 R B x m v:=∃a w b,v= .agg #[a,w,b]/\(aW Fl 2).R B x.mc m a/\iJ.R B x.wh m w/\(aW sX 1).R B x.rM m b
 mono:=by
  rintro B B' x m v ⟨a,w,b,e,h1,h2,h3⟩ k;exact⟨a,w,b,e,(aW Fl 2).mono h1 k,iJ.mono h2 k,(aW sX 1).mono h3 k⟩
 ext:=by
  rintro B S x m m' v ⟨a,w,b,e,h1,h2,h3⟩ k hs;exact⟨a,w,b,e,(aW Fl 2).ext h1 k hs,iJ.ext h2 k hs,(aW sX 1).ext h3 k hs⟩
theorem iJ.one{B:Nat->Prop}{x:Option X}{m:Mem}{v:ae}(h:iJ.R B x m v):v.oneCell'=true:=by
 cases x with
 |none=>have h:v= .nilIface:=h;rw[h];rfl
 |some x=>obtain⟨t,b,rfl⟩:=XR.form (show XR B x m v from h);rfl
end Go.AM
namespace Go.AM
set_option maxRecDepth 1000000
open Go Go.Conc Go.Proofs
structure CU where
 all:Bool
 sel:Q0
def Fj:nB CU where
 R B x m v:=∃a w b,v= .agg #[.bool x.all,a,w,b]/\jZ.R B x.sel m (.agg #[a,w,b])
 mono:=by
  rintro B B' x m v ⟨a,w,b,e,h⟩ k;exact⟨a,w,b,e,jZ.mono h k⟩
 ext:=by
  rintro B S x m m' v ⟨a,w,b,e,h⟩ k hs;exact⟨a,w,b,e,jZ.ext h k hs⟩
structure FH where
 first :Q0
 us:List CU
def iK:nB FH where
 R B x m v:=∃a w b u,v= .agg #[a,w,b,u]/\jZ.R B x.first m (.agg #[a,w,b])/\(aW Fj 4).R B x.us m u
 mono:=by
  rintro B B' x m v ⟨a,w,b,u,e,h,h'⟩ k;exact⟨a,w,b,u,e,jZ.mono h k,(aW Fj 4).mono h' k⟩
 ext:=by
  rintro B S x m m' v ⟨a,w,b,u,e,h,h'⟩ k hs;exact⟨a,w,b,u,e,jZ.ext h k hs,(aW Fj 4).ext h' k hs⟩
theorem jZ.three{B:Nat->Prop}{x:Q0}{m:Mem}{v:ae}(h:jZ.R B x m v):∃a w b,v= .agg #[a,w,b]/\a.oneCell'=true/\w.oneCell'=true/\b.oneCell'=true:=by
 obtain⟨a,w,b,e,h1,h2,h3⟩:=h;exact⟨a,w,b,e,(aW.mH h1).2,iJ.one h2,(aW.mH h3).2⟩
structure Pd where
 p:Nat
 self:Bool
 b:FH
def pK:nB Pd where
 R B x m v:=∃a w b u,v= .agg #[vP x.p 0,.bool x.self,a,w,b,u]/\iK.R B x.b m (.agg #[a,w,b,u])
 mono:=by
  rintro B B' x m v ⟨a,w,b,u,e,h⟩ k;exact⟨a,w,b,u,e,iK.mono h k⟩
 ext:=by
  rintro B S x m m' v ⟨a,w,b,u,e,h⟩ k hs;exact⟨a,w,b,u,e,iK.ext h k hs⟩
structure zx where
 parts:List Pd
 fG:List AK
 b:FH
def zk:nB zx where
 R B x m v:=∃p c a w b u,v= .agg #[p,c,a,w,b,u]/\(aW pK 6).R B x.parts m p/\qA.R B x.fG m c/\iK.R B x.b m (.agg #[a,w,b,u])
 mono:=by
  rintro B B' x m v ⟨p,c,a,w,b,u,e,h1,h2,h⟩ k;exact⟨p,c,a,w,b,u,e,(aW pK 6).mono h1 k,qA.mono h2 k,iK.mono h k⟩
 ext:=by
  rintro B S x m m' v ⟨p,c,a,w,b,u,e,h1,h2,h⟩ k hs;exact⟨p,c,a,w,b,u,e,(aW pK 6).ext h1 k hs,qA.ext h2 k hs,iK.ext h k hs⟩
theorem iK.four{B:Nat->Prop}{x:FH}{m:Mem}{v:ae}(h:iK.R B x m v):∃a w b u,v= .agg #[a,w,b,u]/\a.oneCell'=true/\w.oneCell'=true/\b.oneCell'=true/\u.oneCell'=true:=by
 obtain⟨a,w,b,u,e,h1,h2⟩:=h;obtain⟨_,_,_,e',x1,x2,x3⟩:=jZ.three h1;cases e';exact⟨a,w,b,u,e,x1,x2,x3,(aW.mH h2).2⟩
end Go.AM
namespace Go.AM
set_option maxRecDepth 1000000
open Go Go.Conc Go.Proofs
def aaC:nB (List ByteArray):=aW (ku Bo) 1
def aaD:nB (List Int):=aW (ku vI) 1
theorem acf (s:ByteArray):okV 1 (Bo s):=⟨rfl,by simp[Bo,ae.cells,ae.oneCell']⟩
theorem ach (k:Int):okV 1 (vI k):=⟨rfl,by simp[ae.cells,ae.oneCell']⟩
theorem vp:wq ab 31=some true/\dV ab 31=some 4:=⟨bG,bG⟩
section
variable {K:gI}{m:Mem}
theorem ajg (pn pc cn cc un uc:Nat)(pa ca ua:Option Addr)(a w b:ae)(bW dz ij:Nat):eS 76 0 3 [0] [.agg #[.slice pa pn pc,.slice ca cn cc,a,w,b,.slice ua un uc]]
 [dZ [some (.slice pa pn pc),some (.slice ca cn cc),some a,some w,some b,some (.slice ua un uc)] bW,
  dZ [some kB,some kB,some kB,some (vI 0)] dz,
  dZ [some kB,some (vI 0),some kB,some (vI 0),some kB,some (vI 0),some kB,some (vI 0),some kB,some kB,some (vI 0),some kB,some (vI 0),some kB,some (vI 0),some kB,some (vI 0),some kB] ij,
  .mem (aT bW 0) (.slice pa pn pc)]
 .normal [1,2,4,16,17,18] [vP bW 0,vP dz 0,vP ij 0,.slice pa pn pc,vI pn,vI 0]:=iD
theorem aje (b1 b2 d pn pc i:Nat)(pa:Option Addr):eA 76 [3] 0 99 [1,2,4,16,17,18] [vP b1 0,vP b2 0,vP d 0,.slice pa pn pc,vI pn,vI i]
 [bu (eX i pn) false]
 (.exit 0) [1,2,4] [vP b1 0,vP b2 0,vP d 0]:=iD
theorem ajd (b2 oY cn cc i:Nat)(ca:Option Addr):eA 76 [10] 0 99 [2,10,46,47,48] [vP b2 0,vP oY 0,.slice ca cn cc,vI cn,vI i]
 [bu (eX i cn) false]
 (.exit 2) [2,10] [vP b2 0,vP oY 0]:=iD
theorem ajf (b2 oY p n cc i nn nc kn kc:Nat)(na ka:Option Addr)(nv kv:ae)(x:AK)(bW dz ij:Nat):eA 76 [10] 0 99 [2,10,46,47,48] [vP b2 0,vP oY 0,vL p 0 n cc,vI n,vI i]
 [bu (eX i n) true,
  .idx i n i,
  .mem (fg 2 p (0+i*2)) (.agg #[gq x.n,vI x.k]),
  dZ [some pV,some (vI 0)] bW,
  jQ bW 0 [gq x.n,vI x.k],
  .mem (aT oY 0) nv,
  .mem (aT bW 0) (gq x.n),
  .mem (bI ab 28 1 [(0,(gq x.n))]) (vL dz 0 1 1),
  .mem (cJ ab #[28,28] nv (vL dz 0 1 1)) (.slice na nn nc),
  .mem (jI oY 0 (.slice na nn nc)) undef,
  .mem (aT oY 1) kv,
  .mem (aT bW 1) (vI x.k),
  .mem (bI ab 22 1 [(0,(vI x.k))]) (vL ij 0 1 1),
  .mem (cJ ab #[22,22] kv (vL ij 0 1 1)) (.slice ka kn kc),
  .mem (jI oY 1 (.slice ka kn kc)) undef]
 .normal [2,10,46,47,48] [vP b2 0,vP oY 0,vL p 0 n cc,vI n,vI (eh i 1)]:=iD
theorem ajc (b2 oY:Nat)(nv kv rv:ae):eS 76 11 99 [2,10] [vP b2 0,vP oY 0]
 [iO 4 oY (.agg #[nv,kv,rv,vI 0]),
  jQ b2 0 [nv,kv,rv,vI 0]]
 .ret [2,3] [vP b2 0,vI 0]:=iD
theorem agE:Ml 76 1 2 31 3=true:=bG
theorem S6:(dK (bV 76)).length<=99:=af bG
theorem acv:iW (bV 76) 3=some (0,(fT 76 [3])):=bG
theorem Lq:tI 76 [3]:=bG
theorem acA:kl (jx 76) (bV 76) (fT 76 [3]) 3 0=true:=bG
theorem NJ:tI 76 [10]:=bG
theorem Qw {B:Nat->Prop}{fG:List AK}{JF:ae}{b2 oY:Nat}{rv:ae}{t0:Tm}{m0:Mem}(g0:Gd m0)(k0:Kp m0 m eQ)(akC:m0.next<=oY)(h10:oY<m.next)(o:Obj m oY 0 [.slice none 0 0,.slice none 0 0,rv,vI 0])(hc:qA.R B fG m JF)(hBb:∀b,B b->b≠oY/\b<m.next)(hl:fG.length<9000)
  (h0:dM [2,10,46,47,48] t0=[vP b2 0,vP oY 0,JF,vI (fG.length:Int),vI 0]):
  ∃t1 m1 nv kv,HQ K (jx 76) (fT 76 [10]) 100000 ⟨t0,m,[]⟩ (.exit 2) ⟨t1,m1,[]⟩/\dM [2,10] t1=[vP b2 0,vP oY 0]/\Kp m m1 (fun y=>y=oY)/\Obj m1 oY 0 [nv,kv,rv,vI 0]/\aaC.R (jS m m1) (fG.map (·.n)) m1 nv/\aaD.R (jS m m1) (fG.map (·.k)) m1 kv:=by
 obtain⟨a,cc,hA⟩:=aW.form hc;have Jj:(aW (ku AK.val) 2).R B fG m JF:=hc;obtain⟨e,t1,m1,he,hx,rfl,hg,kk,nv,kv,o1,B1,B2,hd,nX,mr,l1,l2⟩:=gD (K:=K) (nt:=jx 76) (a:=fT 76 [10]) fG.length
  (Inv:=fun j tm M=>dM [2,10,46,47,48] tm=[vP b2 0,vP oY 0,JF,vI (fG.length:Int),vI j]/\Kp m M (fun y=>y=oY)/\∃nv kv,Obj M oY 0 [nv,kv,rv,vI 0]/\∃B1 B2:Nat->Prop,(∀y,B1 y->¬B2 y)/\(∀y,B1 y->jS m M y)/\(∀y,B2 y->jS m M y)/\
   A9 (ku Bo) 1 B1 M ((fG.take j).map (·.n)) nv/\A9 (ku vI) 1 B2 M ((fG.take j).map (·.k)) kv)
  (dG:=fun e tm M=>e= .exit 2/\dM [2,10] tm=[vP b2 0,vP oY 0]/\Kp m M (fun y=>y=oY)/\∃nv kv,Obj M oY 0 [nv,kv,rv,vI 0]/\∃B1 B2:Nat->Prop,(∀y,B1 y->¬B2 y)/\(∀y,B1 y->jS m M y)/\(∀y,B2 y->jS m M y)/\
   A9 (ku Bo) 1 B1 M (fG.map (·.n)) nv/\A9 (ku vI) 1 B2 M (fG.map (·.k)) kv)
  (by
   rintro j tm M hj ⟨hg,kk,nv,kv,oM,B1,B2,hd,nX,mr,l1,l2⟩;refine .inl ?_;have g:Gd m:=g0.ext k0;have gM:=g.ext kk;have nM:=kk.next;obtain⟨p,c',u,ucs,rfl,hBp,ob,hu,hle,hE,YN⟩:=aW.get ((aW (ku AK.val) 2).ext Jj kk fun y hy=>(hBb y hy).1) hj;obtain⟨x,hy⟩:∃y,fG[j]=y:=⟨_,rfl⟩;rw[hy]at hE;have hE:u=x.val:=hE;subst hE;have e1:fg 2 p (0+j*2) M=some (x.val,M):=by rw[Nat.zero_add];exact bY (vs:=[.string x.n,vI x.k]) ob hu hle
   obtain⟨M1,M2,e2,e3,o2,k2,n2⟩:=kY gM [.string .empty,vI 0] [.string x.n,vI x.k] rfl rfl;have g2:=gM.ext k2;have oM2:=oM.aU k2;have e4:aT oY 0 M2=some (nv,M2):=aO oM2 rfl;have e5:aT M.next 0 M2=some (.string x.n,M2):=aO o2 rfl;have km2:Kp m M2 (fun y=>y=oY):=kk.aS k2;have n2':=k2.next;obtain⟨M3,M4,s1,e6,g3,k3,e7,k4,Q9,_,n4⟩:=(l1.aU k2).add (t:=28) (v:=Bo x.n) g2 g km2 rfl gC (fun b hb=>⟨(nX b hb).1,by have :=(nX b hb).2;omega⟩) (B':=eQ) rfl (fun _ _ h=>h) (fun _ h=>h.elim) (acf x.n) (by simp;omega);obtain⟨na,nn,nc,YJ⟩:=Q9.form;have acm:∀y,B1 y->¬y=oY:=fun y hy e=>by have :=(nX y hy).1;omega
   have To:∀y,B2 y->¬y=oY:=fun y hy e=>by have :=(mr y hy).1;omega
   have amd:oY<m.next:=h10;have ak7:¬B1 oY:=fun h=>acm _ h rfl
   have ak6:¬B2 oY:=fun h=>To _ h rfl
   have oM4:=oM2.ext k4 ak7;have g4:=g2.ext k4;have km4:Kp m M4 (fun y=>y=oY):=km2.new k4 (N:=m.next) (ai _) fun b hb=>(nX b hb).1
   have Z':∀{M':Mem},Kp m M' (fun y=>y=oY)->Own M' oY:=fun k=>g0.own (k0.vF.trans k fun _ _ h=>h) akC
   obtain⟨M5,e8,o5,k5⟩:=lQ (o:=0) s1 oM4 ((Z' km4).may _ _) (af rfl) (by rw[YJ];rfl);have g5:=g4.ext k5;have km5:Kp m M5 (fun y=>y=oY):=km4.trans k5 fun _ _ h=>h
   have e9:aT oY 1 M5=some (kv,M5):=aO o5 rfl;have Qm:aT M.next 1 M5=some (vI x.k,M5):=aO ((o2.ext k4 fun h=>by have :=(nX _ h).2;omega).ext k5 aj) rfl;have n5:=k5.next;have n4':=k4.next;have l2':=((l2.aU k2).ext k4 fun b hb h=>hd b h hb).ext k5 To;obtain⟨M6,M7,s2,e11,g6,k6,e12,k7,W9,_,n7⟩:=l2'.add (t:=22) (v:=vI x.k) g5 g km5 rfl gC (fun b hb=>⟨(mr b hb).1,by have :=(mr b hb).2;omega⟩) (B':=eQ) rfl (fun _ _ h=>h) (fun _ h=>h.elim) (ach x.k) (by simp;omega);obtain⟨ka,kn,kc,hs2⟩:=W9.form;have g7:=g5.ext k7;have km7:Kp m M7 (fun y=>y=oY):=km5.new k7 (N:=m.next) (ai _) fun b hb=>(mr b hb).1
   obtain⟨M8,e13,o8,k8⟩:=lQ (o:=1) s2 (o5.ext k7 ak6) ((Z' km7).may _ _) (af rfl) (by rw[hs2];rfl);have n8:=k8.next;have n7':=k7.next;subst YJ;subst hs2;obtain⟨t2,gm,gA⟩:=bL (K:=K) (m:=M) (m':=M8) NJ (ajf b2 oY p fG.length c' j nn nc kn kc na ka nv kv x M.next M2.next M5.next) hg (.cond (P3 hj)<| .idx rfl hj<| .mem e1<| .mem e2<| .mem e3<| .mem e4<| .mem e5<| .mem e6<| .mem e7<| .mem e8<| .mem e9<| .mem Qm<| .mem e11<| .mem e12<| .mem e13 .nil);have htk:fG.take (j+1)=fG.take j++[x]:=by rw[List.take_add_one,List.getElem?_eq_getElem hj,hy];rfl
   refine⟨t2,M8,gm,by rw[gA,add1 aj],km7.trans k8 fun _ _ h=>h,_,_,o8,(fun y=>B1 y\/eQ y\/y=M2.next+1),(fun y=>B2 y\/eQ y\/y=M5.next+1),?_,?_,?_,?_,?_⟩
   ·rintro y (h|h|h) h'
    ·rcases h' with h'|h'|h'
     ·exact hd y h h'
     ·exact h'
     ·have :=(nX y h).2;omega
    ·exact h
    ·rcases h' with h'|h'|h'
     ·have :=(mr y h').2;omega
     ·exact h'
     ·omega
   ·rintro y (h|h|h)
    ·exact⟨(nX y h).1,by have :=(nX y h).2;omega⟩
    ·exact h.elim
    ·exact⟨aj,aj⟩
   ·rintro y (h|h|h)
    ·exact⟨(mr y h).1,by have :=(mr y h).2;omega⟩
    ·exact h.elim
    ·exact⟨aj,aj⟩
   ·rw[htk,List.map_append];refine((Q9.ext k5 ?_).ext k7 ?_).ext k8 ?_
    ·rintro y (h|h|h) e
     ·exact acm y h e
     ·exact h
     ·omega
    ·rintro y (h|h|h) h'
     ·exact hd y h h'
     ·exact h
     ·have :=(mr y h').2;omega
    ·rintro y (h|h|h) e
     ·exact acm y h e
     ·exact h
     ·omega
   ·rw[htk,List.map_append];refine W9.ext k8 ?_;rintro y (h|h|h) e
    ·exact To y h e
    ·exact h
    ·omega)
  (by
   rintro tm M ⟨hg,kk,nv,kv,oM,B1,B2,hd,nX,mr,l1,l2⟩;rw[hA]at hg;obtain⟨t2,gm,gA⟩:=bL (K:=K) (m:=M) (m':=M) NJ (ajd b2 oY fG.length cc fG.length a) hg (.cond (Yg _) .nil);rw[List.take_length]at l1 l2;exact⟨_,t2,M,nU,gm,rfl,gA,kk,nv,kv,oM,B1,B2,hd,nX,mr,l1,l2⟩)
  (tm:=t0) (m:=m) ⟨h0,Kp.refl _ _,_,_,o,eQ,eQ,fun _ h=>h.elim,fun _ h=>h.elim,fun _ h=>h.elim,A9.nil,A9.nil⟩ aj
 exact⟨t1,m1,nv,kv,hx,hg,kk,o1,(aW (ku Bo) 1).mono l1.fin nX,(aW (ku vI) 1).mono l2.fin mr⟩
end
end Go.AM
namespace Go.AM
set_option maxRecDepth 1000000
open Go Go.Conc Go.Proofs
def Xo (m:Mem)(k:Nat):Mem:={m with deaf:=k}
theorem KI:ab.underlying 139=some (.pointer 63)/\ab.underlying 143=some .unsafePointer/\dV ab 63=some 2:=⟨bG,bG,bG⟩
theorem Ff (cl:bJ)(args:List ae)(m:Mem):(kE ab X0 64).body cl args m=tZ X0 64 args m/\(kE ab X0 65).body cl args m=tZ X0 65 args m/\(kE ab X0 66).body cl args m=tZ X0 66 args m/\
  (kE ab X0 67).body cl args m=tZ X0 67 args m/\(kE ab X0 69).body cl args m=tZ X0 69 args m/\(kE ab X0 70).body cl args m=tZ X0 70 args m:=by
 refine⟨?_,?_,?_,?_,?_,?_⟩<;>kernel_rfl
section
variable {K:gI}{m:Mem}
theorem zj {f:Nat}{args:List ae}{v:ae}{m':Mem}(hf:iE f=false)(ht:∀cl,(kE ab X0 f).body cl args m=tZ X0 f args m)(h:tZ X0 f args m=some (v,m')):Ev K f args m v m':=by
 refine⟨1,fun M n _ hn=>?_⟩;obtain⟨n,rfl⟩:∃k,n=k+1:=⟨n-1,aj⟩;rw[K.step M n f args m hf,ht];exact h
theorem c64:Ev K 64 [] m (.tuple #[]) (Xo m (m.deaf+1)):=zj rfl (fun cl=>(Ff cl [] m).1) rfl
theorem c66:Ev K 66 [] m (.tuple #[]) (Xo m (m.deaf-1)):=zj rfl (fun cl=>(Ff cl [] m).2.2.1) rfl
theorem c67 {b o:Nat}:Ev K 67 [vP b o] m (.tuple #[]) m:=zj rfl (fun cl=>(Ff cl [vP b o] m).2.2.2.1) rfl
theorem c69 {b o:Nat}:Ev K 69 [vP b o] m (.tuple #[]) m:=zj rfl (fun cl=>(Ff cl [vP b o] m).2.2.2.2.1) rfl
theorem yC {b sz o:Nat}{cs:List ae}(vs:List ae)(h:Obj m b sz cs)(hw:m.cP b o vs.length=true)(hn:o+vs.length<=cs.length)(hv:vs.all (·.oneCell')=true):
  ∃m',m.dD b o vs=some m'/\Obj m' b sz (q8 cs o vs)/\Kp m m' (fun x=>x=b):=by
 obtain⟨m',e,o',k⟩:=lh vs h hw hn hv;unfold Az at e
 split at e
 ·rename_i m1 h1;cases e;exact⟨_,h1,o',k⟩
 ·cases e
theorem c65 {b sz:Nat}{x y:Int}{rest:List ae}(h:Obj m b sz (.int .i32 x::rest))(hw:m.cP b 0 1=true):∃m',Ev K 65 [vP b 0,.int .i32 x,.int .i32 y] m (.bool true) m'/\Obj m' b sz (.int .i32 y::rest)/\Kp m m' (fun x=>x=b):=by
 obtain⟨m',e,o',k⟩:=yC (o:=0) [.int .i32 y] h hw cY rfl;refine⟨m',zj rfl (fun cl=>(Ff cl _ m).2.1) ?_,o',k⟩;have hl:m.dv b 0 1=some [.int .i32 x]:=ji h rfl cY
 show(match m.dv b 0 1 with |some [.int .i32 v]=>if v=x then(m.dD b 0 [.int .i32 y]).map fun m'=>(ae.bool true,m')else if m.base<=b then some (.bool false,m)else none|_=>none)=_
 rw[hl]
 show(if x=x then _ else _)=_
 rw[bK rfl,e];rfl
theorem c70 {b sz:Nat}{x y:Int}{rest:List ae}(h:Obj m b sz (.int .i32 x::rest))(hw:m.cP b 0 1=true):∃m',Ev K 70 [vP b 0,.int .i32 y] m (.int .i32 (bX.i32.wrap (x+y))) m'/\Obj m' b sz (.int .i32 (bX.i32.wrap (x+y))::rest)/\Kp m m' (fun x=>x=b):=by
 obtain⟨m',e,o',k⟩:=yC (o:=0) [.int .i32 (bX.i32.wrap (x+y))] h hw cY rfl;refine⟨m',zj rfl (fun cl=>(Ff cl _ m).2.2.2.2.2) ?_,o',k⟩;have hl:m.dv b 0 1=some [.int .i32 x]:=ji h rfl cY
 show(match m.dv b 0 1 with |some [.int .i32 v]=>(m.dD b 0 [.int .i32 (bX.i32.wrap (v+y))]).map fun m'=>(ae.int .i32 (bX.i32.wrap (v+y)),m')|_=>none)=_
 rw[hl]
 show(m.dD b 0 [.int .i32 (bX.i32.wrap (x+y))]).map _=_
 rw[e];rfl
theorem OM {b sz:Nat}{c:ae}{cs:List ae}(h:Obj m b sz (c::cs)):eU ab 139 143 (vP b 0) m=some (vP b 0,m):=by
 unfold eU;simp only[KI.1,KI.2.1,KI.2.2,h.kind,h.cs];rfl
theorem Obj.df{b sz k:Nat}{cs:List ae}(h:Obj m b sz cs):Obj (Xo m k) b sz cs:=⟨h.lt,h.kind,h.sz,h.cs,h.Du⟩
theorem Kp.df{m':Mem}{S:Nat->Prop}{k l:Nat}(h:Kp (Xo m k) m' S)(hl:l=m.deaf):Kp m (Xo m' l) S:=⟨h.next,h.bB,h.opn,h.base,h.home,h.floor,h.wg,h.pend,hl,h.blk⟩
theorem p24 (b:Nat):Path 24 [vP b 0]
 [.call 36 [vP b 0] (.tuple #[])]
 (.tuple #[]):=fu
theorem p36 (b:Nat):Path 36 [vP b 0]
 [.call 64 [] (.tuple #[]),
  .call 65 [vP b 0,.int .i32 0,.int .i32 1] (.bool true),
  lN,
  lN,
  .call 66 [] (.tuple #[]),
  .mem (eU ab 139 143 (vP b 0)) (vP b 0),
  .call 67 [vP b 0] (.tuple #[])]
 (.tuple #[]):=fu
theorem p25 (b:Nat):Path 25 [vP b 0]
 [.call 37 [vP b 0] (.tuple #[])]
 (.tuple #[]):=fu
theorem p37 (b:Nat):Path 37 [vP b 0]
 [lN,
  .mem (aT b 0) (.int .i32 1),
  .mem (eU ab 139 143 (vP b 0)) (vP b 0),
  .call 69 [vP b 0] (.tuple #[]),
  .call 64 [] (.tuple #[]),
  .call 70 [vP b 0,.int .i32 (-1)] (.int .i32 0),
  dH,
  .call 66 [] (.tuple #[])]
 (.tuple #[]):=fu
theorem p40 (db mp:Nat)(rc:Bool)(pn pc:Nat)(pa:Option Addr)(a b w u x1 x2 x3 x4 x5 x6 y1 y2 y3 y4:ae)(e:Int)(bW dz ij MW:Nat):Path 40 [vP db 0,.agg #[.bool rc,.slice pa pn pc,a,b,w,u]]
 [dZ [some (.bool rc),some (.slice pa pn pc),some a,some b,some w,some u] bW,
  dZ [some kB,some kB,some kB,some (vI 0)] dz,
  .mem (aT db 2) (.map (some mp)),
  iO 6 bW (.agg #[.bool rc,.slice pa pn pc,a,b,w,u]),
  dZ [some kB,some kB,some kB,some .nilIface,some kB,some kB] ij,
  .mem (gj (vP ij 0)) (vI MW),
  pT,
  .call 75 [.map (some mp),.agg #[.bool rc,.slice pa pn pc,a,b,w,u]] (.tuple #[.agg #[x1,x2,x3,x4,x5,x6],vI 0]),
  .mem (cW (vI MW) (vP ij 0) (pH (vP ij 0))) undef,
  pT,
  jQ ij 0 [x1,x2,x3,x4,x5,x6],
  dH,
  iO 6 ij (.agg #[x1,x2,x3,x4,x5,x6]),
  .call 76 [.agg #[x1,x2,x3,x4,x5,x6]] (.tuple #[.agg #[y1,y2,y3,y4],vI e]),
  jQ dz 0 [y1,y2,y3,y4],
  sD 31 dz (.agg #[y1,y2,y3,y4])]
 (.tuple #[.agg #[y1,y2,y3,y4],vI e]):=fu
theorem ajD (db:Nat)(rc:Bool)(pn pc:Nat)(pa:Option Addr)(a b w u y1 y2 y3 y4:ae)(e:Int)(bW dz:Nat):Path 26 [vP db 0,.iface 108 (.agg #[.bool rc,.slice pa pn pc,a,b,w,u])]
 [dZ [some kB,some kB,some kB,some (vI 0)] bW,
  dH,
  dH,
  lN,
  dZ [some (.bool false),some kB,some kB,some kB,some .nilIface,some kB] dz,
  jQ dz 0 [.bool rc,.slice pa pn pc,a,b,w,u],
  iO 6 dz (.agg #[.bool rc,.slice pa pn pc,a,b,w,u]),
  .call 40 [vP db 0,.agg #[.bool rc,.slice pa pn pc,a,b,w,u]] (.tuple #[.agg #[y1,y2,y3,y4],vI e]),
  jQ bW 0 [y1,y2,y3,y4],
  sD 31 bW (.agg #[y1,y2,y3,y4])]
 (.tuple #[.agg #[y1,y2,y3,y4],vI e]):=fu
theorem p12 (db:Nat)(t:ByteArray)(sv y1 y2 y3 y4:ae)(e:Int)(bW dz:Nat):Path 12 [vP db 0,gq t]
 [dZ [some kB,some kB,some kB,some (vI 0)] bW,
  .call 22 [gq t] (.tuple #[sv,vI 0,vI 0]),
  dH,
  .call 24 [vP db 0] (.tuple #[]),
  .call 26 [vP db 0,sv] (.tuple #[.agg #[y1,y2,y3,y4],vI e]),
  dZ [some kB,some kB,some kB,some (vI 0)] dz,
  jQ dz 0 [y1,y2,y3,y4],
  iO 4 dz (.agg #[y1,y2,y3,y4]),
  jQ bW 0 [y1,y2,y3,y4],
  .call 25 [vP db 0] (.tuple #[]),
  sD 31 bW (.agg #[y1,y2,y3,y4])]
 (.tuple #[.agg #[y1,y2,y3,y4],vI e,vI 0]):=fu
theorem c24 {b sz:Nat}{rest:List ae}(hd:m.deaf=0)(h:Obj m b sz (.int .i32 0::rest))(hw:m.cP b 0 1=true):∃m',Ev K 24 [vP b 0] m (.tuple #[]) m'/\Obj m' b sz (.int .i32 1::rest)/\Kp m m' (fun x=>x=b):=by
 obtain⟨m1,e1,o1,k1⟩:=c65 (K:=K) (m:=Xo m (m.deaf+1)) (y:=1) h.df hw;have hd1:m1.deaf=1:=by rw[k1.deaf];show m.deaf+1=1;rw[hd]
 have o2:Obj (Xo m1 (m1.deaf-1)) b sz (.int .i32 1::rest):=o1.df;refine⟨Xo m1 (m1.deaf-1),aJ (p24 b) (.call (aJ (p36 b) (.call c64<| .call e1<| .cond rfl<| .cond rfl<| .call c66<| .mem (OM o2)<| .call c67 .nil)) .nil),o2,k1.df (by rw[hd1,hd])⟩
theorem c25 {b sz:Nat}{rest:List ae}(hd:m.deaf=0)(h:Obj m b sz (.int .i32 1::rest))(hw:m.cP b 0 1=true):∃m',Ev K 25 [vP b 0] m (.tuple #[]) m'/\Obj m' b sz (.int .i32 0::rest)/\Kp m m' (fun x=>x=b):=by
 obtain⟨m1,e1,o1,k1⟩:=c70 (K:=K) (m:=Xo m (m.deaf+1)) (y:= -1) h.df hw;have tS:bX.i32.wrap (1+ -1)=0:=gC;rw[tS]at e1 o1;have hd1:m1.deaf=1:=by rw[k1.deaf];show m.deaf+1=1;rw[hd]
 have l1:aT b 0 m=some (.int .i32 1,m):=aO h rfl;refine⟨Xo m1 (m1.deaf-1),aJ (p25 b) (.call (aJ (p37 b) (.cond rfl<| .mem l1<| .mem (OM h)<| .call c69<| .call c64<| .call e1<| .cond rfl<| .call c66 .nil)) .nil),o1.df,k1.df (by rw[hd1,hd])⟩
end
end Go.AM
namespace Go.AM
set_option maxRecDepth 1000000
open Go Go.Conc Go.Proofs
def Room (sz:Nat)(m:Mem)(sv:ae)(o:Option Nat):Prop:=(o=none/\sv= .slice none 0 0)\/∃b l xs,o=some b/\sv=vL b 0 l fp/\RO m b sz xs/\l*sz<=xs.length
theorem ael {zc:Array ae}{n:Nat}(h:∀y∈zc.toList,y.oneCell'=true):(Builtin.zeroCells zc n).toList.length=n*zc.size/\((Builtin.zeroCells zc n).toList.all (·.oneCell'))=true:=by
 unfold Builtin.zeroCells;refine⟨cY,?_⟩;rw[aE];intro y hy;simp only[Array.toList_map,Array.toList_range,List.mem_map,List.mem_range]at hy;obtain⟨i,hi,rfl⟩:=hy;have hs:0<zc.size:=by
  rcases Nat.eq_zero_or_pos zc.size with e|e
  ·rw[e]at hi;simp at hi
  ·exact e
 rw[getElem!_pos zc _ (Nat.mod_lt _ hs)];exact h _ (Array.getElem_mem_toList _)
def gT {α:Type}(st:Nat->List α):Nat->Nat->List α->List α
 |0,_,acc=>acc
 |n+1,i,acc=>gT st n (i+1) (acc++st i)
structure Ar (K:gI)(m0:Mem)(X:Nat->Prop)(fs:Nat)(cap:Array ae){α:Type}(E:nB α)(sz:Nat)(st:Nat->List α)(hi:Nat):Prop where
 one:∀i,(st i).length<=1
 run:∀(mw:Mem) (BO BE:Nat->Prop) (acc:List α) (sv:ae) (i:Nat),i<hi->Gd mw->sx (fun b=>¬X b) m0 mw->mz E sz BO BE mw acc sv->(∀b,BO b->(X b\/m0.next<=b)/\b<mw.next)->(∀b,BE b->m0.next<=b/\b<mw.next)->acc.length<2^29->
  ∃yA m' ZN Kh,Ev K fs ([sv,vI (i:Int)]++cap.toList) mw (.tuple #[yA,vI 0]) m'/\Kp mw m' BO/\mz E sz ZN Kh m' (acc++st i) yA/\(∀b,ZN b->BO b\/jS mw m' b)/\(∀b,Kh b->BE b\/jS mw m' b)
section
variable {K:gI}{m:Mem}{fl go sh ga em t sz:Nat}
theorem ZA (L:Kin fl go sh ga em t)(ht:sZ.contains (t,sz)=true){α:Type}{E:nB α}{sv:ae}{o:Option Nat}(h:Room sz m sv o)(hw:∀b,o=some b->Own m b):
  ∃yA m',Ev K em [sv] m yA m'/\Kp m m' (fun y=>o=some y)/\mz E sz (fun y=>o=some y) eQ m' [] yA:=by
 obtain⟨e,z,s,h1,hz,hs,hzs,hz1⟩:=Pf L.und;obtain⟨e',h3,h4,h0,_⟩:=uu ht;rw[h1]at h3;cases h3;rw[hs]at h4;cases h4;rcases h with⟨rfl,rfl⟩|⟨b,l,xs,rfl,rfl,ro,hl⟩
 ·have x1:mY ab #[t] (.slice none 0 0) m=some (.tuple #[],m):=by
   unfold mY
   show(match ab.underlying t,(ae.slice none 0 0)with |some (.slice e),.slice base n _=>_|_,_=>none)=_
   rw[h1]
  have x2:oc ab t (.slice none 0 0) none (some (vI 0)) m=some (.slice none 0 0,m):=by
   unfold oc iR;simp only[h1,hs,jP];simp[fp]
  exact⟨.slice none 0 0,m,aJ (L.SN 0 0 none _) (.mem x1<| .mem x2 .nil) L.spec.1,.refl _ _,.inl ⟨rfl,rfl⟩⟩
 ·have ob:Obj m b sz xs:=ro.obj (by
   have :=hw b rfl;unfold Own Mem.fq at this;simp only[ag,Bool.not_eq_true']at this;exact this.1.1)
  have ym:∀m',oc ab t (vL b 0 l fp) none (some (vI 0)) m'=some (vL b 0 0 fp,m'):=fun m'=>by
   unfold oc iR;simp only[h1,hs,jP];simp[fp]
  by_cases hl0:l=0
  ·subst hl0;have x1:mY ab #[t] (vL b 0 0 fp) m=some (.tuple #[],m):=by
    unfold mY
    show(match ab.underlying t,(vL b 0 0 fp)with |some (.slice e),.slice base n _=>_|_,_=>none)=_
    rw[h1];simp
   exact⟨vL b 0 0 fp,m,aJ (L.SN 0 fp (some ⟨b,0,none⟩) _) (.mem x1<| .mem (ym m) .nil) L.spec.1,.refl _ _,.inr ⟨b,[],xs,rfl,⟨rfl,id⟩,hw b rfl,ob,rfl⟩⟩
  ·obtain⟨z1,z2⟩:=ael (n:=l) hz1;rw[hzs]at z1;obtain⟨m',e1,o1,k1⟩:=yC (o:=0) (Builtin.zeroCells z.cells l).toList ob ((hw b rfl).may _ _) aj z2;have x1:mY ab #[t] (vL b 0 l fp) m=some (.tuple #[],m'):=by
    unfold mY
    show(match ab.underlying t,(vL b 0 l fp)with |some (.slice e),.slice base n _=>_|_,_=>none)=_
    rw[h1];simp only[hl0,if_false,hz,aX,e1,cT]
   exact⟨vL b 0 0 fp,m',aJ (L.SN l fp (some ⟨b,0,none⟩) _) (.mem x1<| .mem (ym m') .nil) L.spec.1,k1.mono fun y _ h=>by rw[h],.inr ⟨b,[],_,rfl,⟨rfl,id⟩,(hw b rfl).ext k1,o1,rfl⟩⟩
theorem aln (L:Kin fl go sh ga em t)(ht:sZ.contains (t,sz)=true){α:Type}{E:nB α}{m0:Mem}{X:Nat->Prop}{fs fr to hi d o szd:Nat}{cap:Array ae}{st:Nat->List α}{ob:Option Nat}{sv0:ae}{cs:List ae}(ei:Ar K m0 X fs cap E sz st hi)(g:Gd m)(hsm:sx (fun b=>¬X b) m0 m)(ro:RO m d szd cs)(h0:cs[o]?=some sv0)(h1:o+1<cs.length)
  (ru:Room sz m sv0 ob)(u6:∀b,ob=some b->Own m b)(hX:∀b,ob=some b->X b/\b≠d/\b<m.next)(hm:meets m.bB d o 1=false)(hw0:m.cP d o 1=true)(Oa:m.cP d (o+1) 1=true)(hf:fr<=to)(hh:to<=hi)(hs:to<90000):
  ∃sv m' BO BE,Ev K sh [vP d o,vI fr,vI to,.func (.func fs) #[] cap] m (.tuple #[]) m'/\Kp m m' (fun y=>y=d\/ob=some y)/\RO m' d szd ((cs.set o sv).set (o+1) (vI 0))/\
   mz E sz BO BE m' (gT st (to-fr) fr []) sv/\(∀b,BO b->ob=some b\/jS m m' b)/\∀b,BE b->jS m m' b:=by
 obtain⟨Q,hQ⟩:∃Q,Q=gT st (to-fr) fr []:=⟨_,rfl⟩;rw[<-hQ];obtain⟨F,hF⟩:∃F:ae,F= .func (.func fs) #[] cap:=⟨_,rfl⟩;obtain⟨Q5,m1,e1,k1,Q9⟩:=ZA (K:=K) L ht (E:=E) ru u6;obtain⟨a0,n0,c0,rfl⟩:∃a n c,sv0= .slice a n c:=by rcases ru with⟨_,rfl⟩|⟨_,_,_,_,rfl,_⟩<;>exact⟨_,_,_,rfl⟩
 have hXm:∀{m'},Kp m m' (fun y=>ob=some y)->sx (fun b=>¬X b) m0 m':=fun k=>hsm.trans (k.same fun b hb e=>hb (hX b e).1)
 obtain⟨t0,w0,e0⟩:=cj (K:=K) (m:=m) (m':=m1) (tm:=entry [vP d o,vI fr,vI to,.func (.func fs) #[] cap]) (L.abz d o fr to fs n0 c0 cap a0 Q5) rfl (.mem (ro.ld1 h0 hm)<| .call e1 .nil);obtain⟨e,t1,m2,he,hx,rfl,sv,BA,BE,hg,k2,W9,hB2,hE2⟩:=gD (K:=K) (nt:=jx sh) (a:=oH (bV sh) [2]) (to-fr)
  (Inv:=fun j tm m'=>∃sv BA BE acc,dM [0,2,3,8,9,10] tm=[vP d o,vI to,F,sv,vI 0,vI (fr+j:Nat)]/\Kp m m' (fun y=>ob=some y)/\mz E sz BA BE m' acc sv/\(∀b,BA b->ob=some b\/jS m m' b)/\(∀b,BE b->jS m m' b)/\acc.length<=j/\gT st (to-fr-j) (fr+j) acc=Q)
  (dG:=fun e tm m'=>e= .exit 0/\∃sv BA BE,dM [0,8,9] tm=[vP d o,sv,vI 0]/\Kp m m' (fun y=>ob=some y)/\mz E sz BA BE m' Q sv/\(∀b,BA b->ob=some b\/jS m m' b)/\∀b,BE b->jS m m' b)
  (by
   rintro j tm m2 hj ⟨sv,BA,BE,acc,hg,kk,ls,hB,hE,Rf,hq⟩;rw[hF]at hg;have nk:=kk.next;have nh:=hsm.next;obtain⟨yA,m3,BA',Kh,e3,k3,Yh,hB3,hE3⟩:=ei.run m2 BA BE acc sv (fr+j) aj (g.ext kk) (hXm kk) ls (fun b hb=>by
    rcases hB b hb with h|h
    ·exact⟨.inl (hX b h).1,by have :=(hX b h).2.2;omega⟩
    ·exact⟨.inr (by have :=h.1;omega),h.2⟩) (fun b hb=>⟨by have :=(hE b hb).1;omega,(hE b hb).2⟩) aj
   have e3':Ev K fs ((#[]:Array ae).toList++[sv,vI (fr+j:Nat)]++cap.toList) m2 (.tuple #[yA,vI 0]) m3:=e3;obtain⟨t2,gm,gA⟩:=bL (K:=K) (m:=m2) (m':=m3) L.ND (L.aby d o to (fr+j) fs cap sv yA) hg (.rp (P3 aj)<| .cond rfl<| .fw e3' .nil);rw[show to-fr-j=(to-fr-(j+1))+1 by omega]at hq;have nx:=k3.next;refine .inl ⟨t2,m3,gm,yA,BA',Kh,acc++st (fr+j),by rw[gA,add1 aj,hF];rfl,?_,Yh,fun b hb=>?_,fun b hb=>?_,by have :=ei.one (fr+j);simp;omega,hq⟩
   ·exact kk.trans k3 fun b hb h=>by
     rcases hB b h with h|h
     ·exact h
     ·exact absurd h.1 aj
   ·rcases hB3 b hb with h|h
    ·rcases hB b h with h|h
     ·exact .inl h
     ·exact .inr ⟨h.1,by have :=h.2;omega⟩
    ·exact .inr ⟨by have :=h.1;omega,h.2⟩
   ·rcases hE3 b hb with h|h
    ·have :=hE b h;exact⟨this.1,by have :=this.2;omega⟩
    ·exact⟨by have :=h.1;omega,h.2⟩)
  (by
   rintro tm m2 ⟨sv,BA,BE,acc,hg,kk,ls,hB,hE,Rf,hq⟩;rw[hF,show fr+(to-fr)=to by omega]at hg;rw[Nat.sub_self]at hq;have hq:acc=Q:=hq;subst hq;obtain⟨t2,gm,gA⟩:=bL (K:=K) (m:=m2) (m':=m2) L.ND (L.abx d o to to fs cap sv) hg (.rp (Yg _)<| .cond rfl .nil);exact⟨_,t2,m2,nU,gm,rfl,sv,BA,BE,gA,kk,ls,hB,hE⟩)
  (tm:=t0) (m:=m1) ⟨Q5,_,eQ,[],by rw[e0,hF];rfl,k1,Q9,fun b h=> .inl h,fun b h=>h.elim,ai _,by rw[hQ];rfl⟩ aj
 have ho:o<cs.length:=aj;have hd:¬ob=some d:=fun e=>(hX d e).2.1 rfl
 obtain⟨a,cc,wB⟩:=W9.form;obtain⟨m3,e3,r3,k3,n3⟩:=(ro.ext k2 hd).jB (o:=o) sv (Gt k2 hw0) ho W9.one;obtain⟨m4,e4,r4,k4,n4⟩:=r3.jB (o:=o+1) (vI 0) (Gt k3 (Gt k2 Oa)) (by simpa using h1) rfl;subst wB;obtain⟨t2,h2,e2⟩:=cj (K:=K) (m:=m2) (m':=m4) (L.abw d o Q.length cc a) hg (.mem e3<| .mem e4 .nil);have Ra:Kp m2 m4 (fun y=>y=d):=k3.trans k4 fun _ _ h=>h
 have n24:=Ra.next;have n02:=k2.next;have Qg:=ro.lt;refine⟨_,m4,BA,BE,fW L.aca (aQ.cut w0 (aQ.xp L.acr L.acx hx rfl (aQ.last h2 L.UX))) (.inl rfl) e2 L.spec.2.1,?_,r4,W9.ext Ra fun b hb e=>?_,fun b hb=>?_,fun b hb=>⟨(hE2 b hb).1,by have :=(hE2 b hb).2;omega⟩⟩
 ·exact(k2.mono fun _ _ h=> .inr h).trans Ra fun _ _ h=> .inl h
 ·rcases hb with hb|hb
  ·rcases hB2 b hb with h|h
   ·exact(hX b h).2.1 e
   ·have :=h.1;omega
  ·have :=(hE2 b hb).1;omega
 ·rcases hB2 b hb with h|h
  ·exact .inl h
  ·exact .inr ⟨h.1,by have :=h.2;omega⟩
end
end Go.AM
namespace Go.AM
set_option maxRecDepth 1000000
open Go Go.Conc Go.Proofs
structure BoP (d N:Nat)(bo:Nat->Option Nat):Prop where
 ne:∀{j b},bo j=some b->b≠d/\b<N
 inj:∀{i j b},bo i=some b->bo j=some b->i=j
def uZ (d q:Nat)(bo:Nat->Option Nat)(j:Nat):List Span:=sp d (q+2*j)::sp d (q+2*j+1)::(match bo j with |none=>[] |some b=>[(b,b+1,none)])
def tD (d q:Nat)(bo:Nat->Option Nat):Nat->List Span
 |0=>uZ d q bo 3++(uZ d q bo 2++(uZ d q bo 1++uZ d q bo 0))
 |1=>uZ d q bo 3++(uZ d q bo 2++uZ d q bo 1)
 |2=>uZ d q bo 3++uZ d q bo 2
 |3=>uZ d q bo 3
 |_=>[]
def ZJ (s t:Span):Bool:=s.1 !=t.1||(match s.2.2,t.2.2 with |some x,some y=>x !=y|_,_=>false)
section
variable {d q N:Nat}{bo:Nat->Option Nat}
theorem nz {j:Nat}{s:Span}:s∈uZ d q bo j↔s=sp d (q+2*j)\/s=sp d (q+2*j+1)\/∃b,bo j=some b/\s=(b,b+1,none):=by
 unfold uZ;cases h:bo j<;>simp
theorem MO (hP:BoP d N bo){i j:Nat}(sN:i≠j){s t:Span}(hs:s∈uZ d q bo i)(ht:t∈uZ d q bo j):ZJ s t=true:=by
 rcases nz.1 hs with rfl|rfl|⟨b,hb,rfl⟩<;>rcases nz.1 ht with rfl|rfl|⟨c,hc,rfl⟩<;>simp only[ZJ,sp]
 ·simp;omega
 ·simp;omega
 ·simp;exact fun e=>(hP.ne hc).1 e.symm
 ·simp;omega
 ·simp;omega
 ·simp;exact fun e=>(hP.ne hc).1 e.symm
 ·simp;exact(hP.ne hb).1
 ·simp;exact(hP.ne hb).1
 ·simp;exact fun e=>sN (hP.inj hb (e▸hc))
theorem ZI {s:Span}(h:ZJ s s=true):False:=by
 unfold ZJ at h;obtain⟨a,b,c⟩:=s;cases c<;>simp at h
theorem yh:∀{A B:List Span},jw A=true->jw B=true->(∀s∈A,∀t∈B,ZJ s t=true)->jw (A++B)=true
 | [],B,_,h,_=>h
 |s::A,B,h,h',k=>by
  have h:((A.all fun t=>ZJ s t)&&jw A)=true:=h;rw[ag]at h
  show(((A++B).all fun t=>ZJ s t)&&jw (A++B))=true
  rw[ag,List.all_append,ag];exact⟨⟨h.1,aE.2 (k s (List.mem_cons_self ..))⟩,yh h.2 h' fun t ht=>k t (List.mem_cons_of_mem _ ht)⟩
theorem FD (hP:BoP d N bo)(j:Nat):jw (uZ d q bo j)=true:=by
 unfold uZ;cases h:bo j with
 |none=>simp[jw,sp]
 |some b=>
  have :=(hP.ne h).1;simp[jw,sp,this.symm]
theorem uD {j:Nat}(hj:j<4):tD d q bo j=tD d q bo (j+1)++uZ d q bo j:=by
 match j,hj with
 |0,_=>simp[tD]
 |1,_=>simp[tD]
 |2,_=>simp[tD]
 |3,_=>simp[tD]
theorem xk {j:Nat}(hj:j<=4){s:Span}(h:s∈tD d q bo j):∃k,j<=k/\k<4/\s∈uZ d q bo k:=by
 induction k:4-j generalizing j with
 |zero=>
  have :j=4:=aj;subst this;cases h
 |succ k ih=>
  rw[uD aj]at h;rcases List.mem_append.1 h with h|h
  ·obtain⟨x,h1,h2,h3⟩:=ih aj h aj;exact⟨x,aj,h2,h3⟩
  ·exact⟨j,ai _,aj,h⟩
theorem Db (hP:BoP d N bo):∀(k:Nat) {j:Nat},j+k=4->jw (tD d q bo j)=true
 |0,j,h=>by
  have :j=4:=aj;subst this;rfl
 |k+1,j,h=>by
  rw[uD aj];refine yh (Db hP k aj) (FD hP j) fun s hs t ht=>?_
  obtain⟨x,h1,h2,h3⟩:=xk aj hs;exact MO hP aj h3 ht
theorem Jx (hP:BoP d N bo){j:Nat}(hj:j<4):((tD d q bo j).filter fun s=> !(uZ d q bo j).contains s)=tD d q bo (j+1):=by
 rw[uD hj,List.filter_append,List.filter_eq_self.2,List.filter_eq_nil_iff.2,List.append_nil]
 ·intro s hs;simpa using hs
 ·intro s hs;obtain⟨x,h1,h2,h3⟩:=xk aj hs;rw[Bool.not_eq_true',Bool.eq_false_iff];intro hc;exact ZI (MO hP (show x≠j by omega) h3 (by simpa using hc))
theorem Bj {j:Nat}{s:Span}(h:s∈uZ d q bo j):s.2.1=s.1+1:=by
 rcases nz.1 h with rfl|rfl|⟨b,hb,rfl⟩<;>rfl
theorem QR {s t:Span}(h:ZJ s t=true)(hs:s.2.1=s.1+1)(ht:t.2.1=t.1+1):wo s t=true:=by
 unfold ZJ at h;unfold wo;rw[Bool.or_eq_true]at h;rcases h with h|h
 ·have h:s.1≠t.1:=by simpa using h
  rcases Nat.lt_or_gt_of_ne h with h|h
  ·rw[Nat.ble_eq_true_of_le aj];rfl
  ·rw[show Nat.ble t.2.1 s.1=true from Nat.ble_eq_true_of_le aj];simp
 ·rw[Bool.or_eq_true];exact .inr h
theorem xn (hP:BoP d N bo)(hd:d<N){j:Nat}{s:Span}(h:s∈uZ d q bo j):s.2.1<=N:=by
 rcases nz.1 h with rfl|rfl|⟨b,hb,rfl⟩
 ·exact hd
 ·exact hd
 ·exact(hP.ne hb).2
theorem Cu {j b:Nat}(hb:b≠d)(Ks:bo j≠some b){s:Span}(h:s∈uZ d q bo j)(h1:s.1<=b)(h2:b<s.2.1):False:=by
 rcases nz.1 h with rfl|rfl|⟨c,hc,rfl⟩
 ·exact hb (by unfold sp at h1 h2;simp at h1 h2;omega)
 ·exact hb (by unfold sp at h1 h2;simp at h1 h2;omega)
 ·simp at h1 h2;have :b=c:=aj;exact Ks (this▸hc)
end
structure HO (S:Nat->Prop)(M M':Mem):Prop where
 next:M.next<=M'.next
 blk:∀b,b<M.next->¬S b->M'.blk b=M.blk b
theorem HO.trans{S:Nat->Prop}{M M1 M2:Mem}(h:HO S M M1)(k:HO S M1 M2):HO S M M2:=⟨cF h.next k.next,fun b hb hd=>(k.blk b (a8 hb h.next) hd).trans (h.blk b hb hd)⟩
theorem HO.mono{S S':Nat->Prop}{M M':Mem}(h:HO S M M')(k:∀b,b<M.next->S b->S' b):HO S' M M':=⟨h.next,fun b hb hs=>h.blk b hb fun x=>hs (k b hb x)⟩
theorem Kp.W2{M M':Mem}{S:Nat->Prop}(k:Kp M M' S):HO S M M':=⟨k.next,k.blk⟩
structure Dm (M:Mem)(w d q N0 Np j:Nat)(bo:Nat->Option Nat):Prop where
 sd:Sd M
 wg:M.wg=some w
 pend:M.pend.length=j
 bd:M.base<=d/\∀k b,bo k=some b->M.base<=b
 opn:M.opn=tD d q bo j
 bB:∀t∈M.bB,(∃k,k<j/\t∈uZ d q bo k)\/(t.2.2=none/\N0<=t.1/\t.2.1<=Np)
 dn:d<N0
 bp:BoP d N0 bo
 n0:N0<=Np
 np:Np<=M.next
theorem Dm.ext{M M':Mem}{w d q N0 Np j:Nat}{bo:Nat->Option Nat}(h:Dm M w d q N0 Np j bo)(k:Kp M M' eQ):Dm M' w d q N0 Np j bo:=
 ⟨h.sd.ext k,k.wg.trans h.wg,by rw[k.pend];exact h.pend,by rw[k.base];exact h.bd,k.opn.trans h.opn,by rw[k.bB];exact h.bB,h.dn,h.bp,h.n0,cF h.np k.next⟩
theorem Dm.Du{M:Mem}{w d q N0 Np j b:Nat}{bo:Nat->Option Nat}(h:Dm M w d q N0 Np j bo)(hb:b≠d)(Ks:∀k,k<j->bo k≠some b)(hc:b<N0\/Np<=b):aL M.bB b=false:=by
 refine gV fun x hx h1 h2=>?_
 rcases h.bB x hx with⟨k,hk,hx⟩|⟨h3,h4,h5⟩
 ·exact Cu hb (Ks k hk) hx h1 h2
 ·omega
section
variable {K:gI}{fl go sh ga em t sz:Nat}
theorem V1 (L:Kin fl go sh ga em t)(ht:sZ.contains (t,sz)=true){α:Type}{E:nB α}{X:Nat->Prop}{fs hi szd:Nat}{cap:Array ae}{st:Nat->List α}{m0 M aV:Mem}{w d q N0 Np j t0 t5 bi bf bt fr to:Nat}{bo:Nat->Option Nat}{cs:List ae}{sv0:ae}(hK:Ej K)(ei:Ar KW m0 X fs cap E sz st hi)(hXd:X d)(hXb:∀k b,bo k=some b->X b)
  (hm0:m0.next<=N0)(hv0:m0.bB=[])(h0:∀b,b<m0.next->¬X b->aV.blk b=m0.blk b)(YT:lq w d q M=some aV)(hj:j<4)(vg:Dm aV w d q N0 Np j bo)
  (fN:rS X0 (.func (.func go) #[] #[vP t0 0,vP bi 0,vP bf 0,vP bt 0,vP t5 0]) M=some (d,q,j))(ro:RO aV d szd cs)(hlen:q+8<cs.length)(wB:cs[q+2*j]?=some sv0)(ru:Room sz aV sv0 (bo j))
  (r0:RO aV t0 0 [vP d q])(ri:RO aV bi 0 [vI (j:Int)])(rf:RO aV bf 0 [vI (fr:Int)])(rt:RO aV bt 0 [vI (to:Int)])(r5:RO aV t5 0 [.func (.func fs) #[] cap])
  (VK:∀x,x=t0\/x=bi\/x=bf\/x=bt\/x=t5->x≠d/\(∀k,bo k≠some x)/\(x<N0\/Np<=x))(hf:fr<=to)(hh:to<=hi)(hs:to<90000):
  ∃sv mw m2 BA BE M',Ev K 137 [vP w 0,.func (.func go) #[] #[vP t0 0,vP bi 0,vP bf 0,vP bt 0,vP t5 0]] M (.tuple #[]) M'/\Dm M' w d q N0 M'.next (j+1) bo/\M'.base=aV.base/\M'.home=aV.home/\RO M' d szd ((cs.set (q+2*j) sv).set (q+2*j+1) (vI 0))/\
   mz E sz BA BE m2 (gT st (to-fr) fr []) sv/\(∀b,BA b->bo j=some b\/jS mw m2 b)/\(∀b,BE b->jS mw m2 b)/\(∀b,M'.blk b=m2.blk b)/\M'.next=m2.next/\aV.next<=mw.next/\HO (fun b=>b=d\/bo j=some b) aV M':=by
 have hsd:=vg.sd;have hP:=vg.bp;obtain⟨dw,G1⟩:∃dw:ae,dw= .func (.func go) #[] #[vP t0 0,vP bi 0,vP bf 0,vP bt 0,vP t5 0]:=⟨_,rfl⟩;obtain⟨mb,Jf⟩:∃mb,mb=lK aV w dw:=⟨_,rfl⟩;have nb:mb.next=aV.next+2:=by rw[Jf];rfl
 have hbh:mb.bB=aV.bB:=by rw[Jf];rfl
 have Ks:mb.opn=aV.opn:=by rw[Jf];rfl
 have nA:mb.base=aV.base:=by rw[Jf];rfl
 have akV:mb.home=aV.home:=by rw[Jf];rfl
 have hbw:mb.wg=aV.wg:=by rw[Jf];rfl
 have hbp:mb.pend=aV.pend:=by rw[Jf];rfl
 have ry:mb.deaf=aV.deaf:=by rw[Jf];rfl
 have kq:∀b,b<aV.next->mb.blk b=aV.blk b:=fun b hb=>by rw[Jf];exact ZE hb
 have ron:∀{b sz:Nat}{xs:List ae},RO aV b sz xs->RO mb b sz xs:=fun h=>by
  have e:=kq _ h.lt;exact⟨by have :=h.lt;omega,by rw[e];exact h.kind,by rw[e];exact h.sz,by rw[e];exact h.cs⟩
 obtain⟨l,hl⟩:∃l,l=uZ d q bo j:=⟨_,rfl⟩;obtain⟨rest,gZ⟩:∃r,r=tD d q bo (j+1):=⟨_,rfl⟩;have hdN:=vg.dn;have hnN:=vg.n0;have hnp:=vg.np;have Oi:∀(T:List Span) x,(x=q+2*j\/x=q+2*j+1)->(∀t∈T,(∃k,k≠j/\t∈uZ d q bo k)\/(t.2.2=none/\N0<=t.1/\t.2.1<=Np))->meets T d x 1=false:=by
  intro T x hx hT;unfold meets;rw[List.any_eq_false];intro t ht;rcases hT t ht with⟨k,hk,hs⟩|⟨h1,h2,h3⟩
  ·rcases nz.1 hs with rfl|rfl|⟨c,hc,rfl⟩
   ·simp only[sp,ag,jE];rintro⟨_,h5,h6⟩;omega
   ·simp only[sp,ag,jE];rintro⟨_,h5,h6⟩;omega
   ·simp only[ag,jE];rintro⟨⟨h5,h6⟩,_⟩;exact(hP.ne hc).1 aj
  ·simp only[ag,jE];rintro⟨⟨h5,_⟩,_⟩;omega
 have YS:∀t∈aV.bB,(∃k,k≠j/\t∈uZ d q bo k)\/(t.2.2=none/\N0<=t.1/\t.2.1<=Np):=fun t ht=>by
  rcases vg.bB t ht with⟨k,hk,h⟩|h
  ·exact .inl ⟨k,aj,h⟩
  ·exact .inr h
 have Il:∀t∈rest,∃k,k≠j/\k<4/\t∈uZ d q bo k:=fun t ht=>by
  rw[gZ]at ht;obtain⟨k,h1,h2,h3⟩:=xk aj ht;exact⟨k,aj,h2,h3⟩
 have ac7:∀x,x=q+2*j\/x=q+2*j+1->meets aV.bB d x 1=false:=fun x hx=>Oi _ x hx YS
 have hle:∀t∈aV.bB,t.2.1<=Np:=by
  intro t ht;rcases vg.bB t ht with⟨k,hk,h⟩|⟨h1,h2,h3⟩
  ·have :=xn hP hdN h;omega
  ·exact h3
 have ahr:z6 mb d q j=some l:=by
  unfold z6;rw[(ron ro).GC wB (by rw[hbh];exact ac7 _ (.inl rfl)),hl];unfold uZ;rcases ru with⟨h1,rfl⟩|⟨b,lb,xs,h1,rfl,_⟩
  ·rw[h1];rfl
  ·rw[h1];rfl
 obtain⟨mw,Oh⟩:∃mw,mw=dm mb l rest:=⟨_,rfl⟩;have nw:mw.next=mb.next:=by rw[Oh];rfl
 have hwh:mw.bB=rest++aV.bB:=by rw[Oh];show rest++mb.bB=_;rw[hbh]
 have hwo:mw.opn=l:=by rw[Oh];rfl
 have hwb:mw.base=aV.base:=by rw[Oh];exact nA
 have I6:mw.floor=mb.next:=by rw[Oh];rfl
 have Vm:∀b,mw.blk b=mb.blk b:=fun b=>by rw[Oh];rfl
 have row:∀{b sz:Nat}{xs:List ae},RO aV b sz xs->RO mw b sz xs:=fun h=>by
  have h:=ron h;have e:=Vm;exact⟨by have :=h.lt;omega,by rw[e];exact h.kind,by rw[e];exact h.sz,by rw[e];exact h.cs⟩
 have Du:∀b,b≠d->(∀k,k≠j->bo k≠some b)->(b<N0\/Np<=b)->aL mw.bB b=false:=by
  intro b hb hk hc;rw[hwh];refine gV fun x hx h1 h2=>?_
  rcases List.mem_append.1 hx with hx|hx
  ·obtain⟨k,Mb,_,hs⟩:=Il x hx;exact Cu hb (hk k Mb) hs h1 h2
  ·rcases YS x hx with⟨k,Mb,hs⟩|⟨h3,h4,h5⟩
   ·exact Cu hb (hk k Mb) hs h1 h2
   ·omega
 have gw:Gd mw:=by
  refine⟨by rw[Oh];rfl,by rw[Oh];exact ry.trans hsd.deaf,by rw[hwb,I6];have :=hsd.bf;have :=hsd.fn;omega,by rw[I6,nw];exact ai _,by rw[Oh];exact ai _,fun s hs=>?_⟩;rw[hwh]at hs;rcases List.mem_append.1 hs with hs|hs
  ·obtain⟨k,_,_,h⟩:=Il s hs;have :=xn hP hdN h;omega
  ·have :=hle s hs;omega
 have fj:sx (fun b=>¬X b) m0 mw:=by
  refine⟨aj,fun b hb hl=>⟨?_,fun _=>Du b (fun e=>hb (e▸hXd)) (fun k _ e=>hb (hXb k b e)) (.inl aj)⟩⟩;rw[Vm,kq b aj,h0 b hl hb]
 have ahm:∀x,x=q+2*j\/x=q+2*j+1->meets mw.bB d x 1=false:=by
  intro x hx;rw[hwh];refine Oi _ x hx fun t ht=>?_
  rcases List.mem_append.1 ht with ht|ht
  ·obtain⟨k,h1,_,h2⟩:=Il t ht;exact .inl ⟨k,h1,h2⟩
  ·exact YS t ht
 have hww:∀x,x=q+2*j\/x=q+2*j+1->mw.cP d x 1=true:=by
  intro x hx;unfold Mem.cP;rw[ahm x hx,hwo,hwb];have Jk:bD l d (x+0)=true:=by
   unfold bD;rw[hl,List.any_eq_true];exact⟨sp d x,nz.2 (by rcases hx with rfl|rfl<;>simp),by simp[sp]⟩
  have ry:=vg.bd.1;simp only[Bool.not_false,Bool.true_and,ag,Bool.or_eq_true,jE];refine⟨ry,.inr ?_⟩
  show((List.range 1).all fun i=>bD l d (x+i))=true
  rw[aE];intro i hi;have :i=0:=by simpa using hi
  subst this;exact Jk
 have u6:∀b,bo j=some b->Own mw b:=by
  intro b hb;unfold Own Mem.fq;rw[Du b (hP.ne hb).1 (fun k hk e=>hk (hP.inj e hb)) (.inl (hP.ne hb).2),hwo,hwb];have h1:=vg.bd.2 j b hb;have h2:gN l b=true:=by
   unfold gN;rw[hl,List.any_eq_true];exact⟨(b,b+1,none),nz.2 (.inr (.inr ⟨b,hb,rfl⟩)),cY⟩
  rw[h2];simp[h1]
 have acU:Room sz mw sv0 (bo j):=by
  rcases ru with h|⟨b,lb,xs,h1,h2,h3,h4⟩
  ·exact .inl h
  ·exact .inr ⟨b,lb,xs,h1,h2,row h3,h4⟩
 have rod:=row ro;obtain⟨sv,m2,BA,BE,alf,k2,ro2,Cd,HK,Jr⟩:=aln (K:=KW) (fr:=fr) (to:=to) (d:=d) (o:=q+2*j) L ht ei gw fj rod wB aj acU u6 (fun b hb=>⟨hXb j b hb,(hP.ne hb).1,by have :=(hP.ne hb).2;omega⟩) (ahm _ (.inl rfl)) (hww _ (.inl rfl)) (hww _ (.inr rfl)) hf hh hs;have Ry:∀x,x=t0\/x=bi\/x=bf\/x=bt\/x=t5->aL mw.bB x=false:=fun x hx=>Du x (VK x hx).1 (fun k _=>(VK x hx).2.1 k) (VK x hx).2.2
 have l0:=aO (o:=0) ((row r0).obj (Ry _ cY)) rfl;have l1:=aO (o:=0) ((row ri).obj (Ry _ cY)) rfl;have l2:=aO (o:=0) ((row rf).obj (Ry _ cY)) rfl;have l3:=aO (o:=0) ((row rt).obj (Ry _ cY)) rfl;have l4:=aO (o:=0) ((row r5).obj (Ry _ cY)) rfl;have alg:Ev KW go [vP t0 0,vP bi 0,vP bf 0,vP bt 0,vP t5 0] mw (.tuple #[]) m2:=
  aJ (L.abC t0 bi bf bt t5 d q j fr to fs cap) (.mem l0<| .mem l1<| .idx rfl hj<| .mem l2<| .mem l3<| .mem l4<| .mem (bP gw)<| .call (by rw[show q+j*2=q+2*j by omega];exact alf) .nil) L.spec.2.2.1
 obtain⟨M',Ri⟩:∃M',M'=jJ mb m2 l rest:=⟨_,rfl⟩;have fK:Ev KW go (#[vP t0 0,vP bi 0,vP bf 0,vP bt 0,vP t5 0]:Array ae).toList (dm (lK aV w (.func (.func go) #[] #[vP t0 0,vP bi 0,vP bf 0,vP bt 0,vP t5 0])) l rest) (.tuple #[]) m2:=by
  rw[<-G1,<-Jf,<-Oh];exact alg
 have VP:m2.deaf=0:=by rw[k2.deaf];exact gw.deaf
 have hgo:=Sg hK fN YT (by rw[<-G1,<-Jf];exact ahr) (rest:=rest) (by rw[gZ,hl,vg.opn,Jx hP hj]) hsd.deaf (by rw[vg.pend];exact hj)
  (by
   rw[aE,hl];intro s hs;rw[vg.opn,uD hj];simp[hs])
  (by rw[hl];exact FD hP j)
  (by
   rw[aE,hl];intro s hs;rw[aE];intro t ht;have :(∃k,k≠j/\t∈uZ d q bo k)\/(t.2.2=none/\N0<=t.1/\t.2.1<=Np):=by
    rcases List.mem_append.1 ht with ht|ht
    ·obtain⟨k,h1,_,h2⟩:=Il t ht;exact .inl ⟨k,h1,h2⟩
    ·exact YS t ht
   rcases this with⟨k,h1,h2⟩|⟨h1,h2,h3⟩
   ·exact QR (MO hP (fun e=>h1 e.symm) hs h2) (Bj hs) (Bj h2)
   ·unfold wo;have :=xn hP hdN hs;rw[show Nat.ble s.2.1 t.1=true from Nat.ble_eq_true_of_le aj];rfl)
  (by
   rw[aE];intro t ht;refine Nat.ble_eq_true_of_le ?_;have :∃k,t∈uZ d q bo k:=by
    rcases List.mem_append.1 ht with ht|ht
    ·obtain⟨k,_,_,h2⟩:=Il t ht;exact⟨k,h2⟩
    ·exact⟨j,hl▸ht⟩
   obtain⟨k,h⟩:=this;have :=xn hP hdN h;omega)
  (by
   rw[aE,hl];intro s hs;rw[<-G1,<-Jf,Bj hs];have :(mb.blk s.1).kind=1:=by
    rcases nz.1 hs with rfl|rfl|⟨b,hb,rfl⟩
    ·exact(ron ro).kind
    ·exact(ron ro).kind
    ·rcases ru with⟨h,_⟩|⟨b',lb,xs,h1,_,h3,_⟩
     ·rw[hb]at h;cases h
     ·rw[hb]at h1;cases h1;exact(ron h3).kind
   rw[this,Nat.beq_refl];rfl)
  fK VP
 rw[<-G1,<-Jf,<-Ri]at hgo;have nM:M'.next=m2.next:=by rw[Ri];rfl
 have Jp:∀b,M'.blk b=m2.blk b:=fun b=>by rw[Ri];rfl
 have n2:=k2.next;have Oz:M'.bB=(mb.next,m2.next,none)::(l++aV.bB):=by rw[Ri,<-hbh];rfl
 have Jq:M'.base=aV.base:=by rw[Ri];exact k2.base.trans hwb
 have ahP:M'.home=aV.home:=by rw[Ri];exact akV
 have ahx:∀t∈M'.bB,(∃k,k<j+1/\t∈uZ d q bo k)\/(t.2.2=none/\N0<=t.1/\t.2.1<=M'.next):=by
  intro t ht;rw[Oz]at ht;rcases aR.1 ht with rfl|ht
  ·exact .inr ⟨rfl,by show N0<=mb.next;omega,by show m2.next<=M'.next;omega⟩
  ·rcases List.mem_append.1 ht with ht|ht
   ·exact .inl ⟨j,aj,hl▸ht⟩
   ·rcases vg.bB t ht with⟨k,hk,h⟩|⟨h1,h2,h3⟩
    ·exact .inl ⟨k,aj,h⟩
    ·exact .inr ⟨h1,h2,aj⟩
 refine⟨sv,mw,m2,BA,BE,M',by rw[<-G1];exact hgo,⟨⟨by rw[Ri];exact VP,?_,?_,?_,?_⟩,?_,?_,by rw[Jq];exact vg.bd,by rw[Ri];exact gZ,ahx,hdN,hP,aj,ai _⟩,Jq,ahP,?_,Cd,HK,Jr,Jp,nM,aj,⟨aj,?_⟩⟩
 ·rw[Jq,show M'.floor=m2.next by rw[Ri];rfl];have :=hsd.bf;have :=hsd.fn;omega
 ·rw[show M'.floor=m2.next by rw[Ri];rfl];omega
 ·rw[ahP];have :=hsd.hn;omega
 ·intro t ht;rcases ahx t ht with⟨k,hk,h⟩|⟨_,_,h⟩
  ·have :=xn hP hdN h;omega
  ·exact h
 ·rw[Ri];exact hbw.trans vg.wg
 ·rw[Ri]
  show(_::mb.pend).length=j+1
  rw[List.length_cons,hbp,vg.pend]
 ·exact⟨by have :=ro2.lt;omega,by rw[Jp];exact ro2.kind,by rw[Jp];exact ro2.sz,by rw[Jp];exact ro2.cs⟩
 ·intro b hb hd;rw[Jp,k2.blk b aj hd,Vm,kq b hb]
end
end Go.AM
namespace Go.AM
set_option maxRecDepth 1000000
open Go Go.Conc Go.Proofs
structure kN (m:Mem)(d q sz:Nat)(cs:List ae)(bo:Nat->Option Nat)(al:Option Nat):Prop where
 len:q+8<cs.length
 sh:∀j,j<4->∃sv,cs[q+2*j]?=some sv/\Room sz m sv (bo j)
 hi:∀j,4<=j->bo j=none
 inj:∀{i j b},bo i=some b->bo j=some b->i=j
 ne:∀{j b},bo j=some b->b≠d/\m.base<=b
 all:∃sv,cs[q+8]?=some sv/\Room sz m sv al
 HN:∀{p},al=some p->p≠d/\m.base<=p/\∀j,bo j≠some p
def PA {α:Type}(st:Nat->List α)(n j:Nat):List α:=gT st (Dv n j-sW n j) (sW n j) []
theorem Room.ext{sz:Nat}{m m':Mem}{sv:ae}{o:Option Nat}{S:Nat->Prop}(h:Room sz m sv o)(k:HO S m m')(hS:∀b,o=some b->¬S b):Room sz m' sv o:=by
 rcases h with h|⟨b,l,xs,e1,e2,r,hl⟩
 ·exact .inl h
 ·have e:=k.blk b r.lt (hS b e1);exact .inr ⟨b,l,xs,e1,e2,⟨a8 r.lt k.next,by rw[e];exact r.kind,by rw[e];exact r.sz,by rw[e];exact r.cs⟩,hl⟩
theorem kN.lt{m:Mem}{d q sz j b:Nat}{cs:List ae}{bo:Nat->Option Nat}{al:Option Nat}(h:kN m d q sz cs bo al)(hb:bo j=some b):b<m.next:=by
 rcases Nat.lt_or_ge j 4 with hj|hj
 ·obtain⟨sv,_,hr⟩:=h.sh j hj;rcases hr with⟨h1,_⟩|⟨b',_,_,h1,_,h3,_⟩
  ·rw[hb]at h1;cases h1
  ·rw[hb]at h1;cases h1;exact h3.lt
 ·rw[h.hi j hj]at hb;cases hb
theorem kN.kind{m:Mem}{d q sz j b:Nat}{cs:List ae}{bo:Nat->Option Nat}{al:Option Nat}(h:kN m d q sz cs bo al)(hb:bo j=some b):∃xs,RO m b sz xs:=by
 rcases Nat.lt_or_ge j 4 with hj|hj
 ·obtain⟨sv,_,hr⟩:=h.sh j hj;rcases hr with⟨h1,_⟩|⟨b',_,xs,h1,_,h3,_⟩
  ·rw[hb]at h1;cases h1
  ·rw[hb]at h1;cases h1;exact⟨xs,h3⟩
 ·rw[h.hi j hj]at hb;cases hb
theorem Qh {M:Mem}{w d q sz:Nat}{cs:List ae}{bo:Nat->Option Nat}{al:Option Nat}(cm:Calm M)(o:Obj M d 0 cs)(hb:M.base<=d)(hB:kN M d q sz cs bo al)
  (ow:Obj M w 0 [.int .u64 0,.int .u32 0])(hp:(M.blk w).pos=1)(hw:Own M w)(hwd:d≠w)(hwb:∀j,bo j≠some w):
  lq w d q M=some {M.aZ w {}with wg:=some w,opn:=tD d q bo 0,floor:=M.next}:=by
 have hP:BoP d M.next bo:=⟨fun h=>⟨(hB.ne h).1,hB.lt h⟩,hB.inj⟩;have hlen:=hB.len;have l:∀j,j<4->z6 M d q j=some (uZ d q bo j):=by
  intro j hj;obtain⟨sv,hs,hr⟩:=hB.sh j hj;unfold z6;rw[o.ro.GC hs (gu o.Du _ _)];unfold uZ;rcases hr with⟨h1,rfl⟩|⟨b,lb,xs,h1,rfl,_⟩
  ·rw[h1];rfl
  ·rw[h1];rfl
 have pF:oI M d q 4=some (tD d q bo 0):=by
  unfold oI oI oI oI oI;rw[l 0 aj,l 1 aj,l 2 aj,l 3 aj];simp[tD]
 unfold lq;rw[cm.wg,pF,ji ow (o:=0) (n:=2) (vs:=[.int .u64 0,.int .u32 0]) rfl (ai _)]
 show(if _ then _ else none)=_
 rw[bK];have h1:=hw.may 0 2;have h2:M.fq w=true:=hw;have h3:(M.blk w).cs.length=2:=by rw[ow.cs];rfl
 have h4:(tD d q bo 0).all (fun s=>vJ M s&&s.1 !=w)=true:=by
  rw[aE];intro s hs;obtain⟨k,_,hk,hs⟩:=xk aj hs;unfold vJ;have hd:∀x,x<q+8->(vJ M (sp d x)&&(sp d x).1 !=w)=true:=by
   intro x hx;have e2:(M.blk d).cs[x]?=some (some cs[x]!):=by
    rw[o.cs,List.getElem?_map,List.getElem?_eq_getElem aj];simp[List.getElem!_eq_getElem?_getD,List.getElem?_eq_getElem (show x<cs.length by omega)]
   show((((((decide (d+1=d+1)&&decide (M.base<=d))&&decide (M.floor<=d))&&decide (d<M.next))&&(M.blk d).kind==1)&&(((M.blk d).cs[x]?).any (·.isSome)))&&(d !=w))=true
   have hf:M.floor<=d:=by rw[cm.floor];exact hb
   rw[e2,o.kind];simp[hb,hf,o.lt,hwd]
  rcases nz.1 hs with rfl|rfl|⟨b,iL,rfl⟩
  ·exact hd _ aj
  ·exact hd _ aj
  ·obtain⟨xs,r⟩:=hB.kind iL;have hbw:b≠w:=fun e=>hwb k (e▸iL)
   have hf:M.floor<=b:=by rw[cm.floor];exact(hB.ne iL).2
   show((((((decide (b+1=b+1)&&decide (M.base<=b))&&decide (M.floor<=b))&&decide (b<M.next))&&(M.blk b).kind==1)&&((M.blk b).cs.all (·.isSome)))&&(b !=w))=true
   rw[r.kind,r.cs];simp[(hB.ne iL).2,hf,r.lt,hbw]
 have h5:jw (tD d q bo 0)=true:=Db hP 4 rfl;simp[h1,h2,hp,h3,cm.bB,cm.opn,cm.gd.pend,cm.floor,h4,h5]
def QX (m:Mem)(d q n sz:Nat){α:Type}(E:nB α)(st:Nat->List α)(bo:Nat->Option Nat)(xs:List ae)(M:Mem)(BA:Nat->Prop)(k:Nat):Prop:=
 ∃sv mw m2 BE,xs[q+2*k]?=some sv/\xs[q+2*k+1]?=some (vI 0)/\(mz E sz BA BE m2 (PA st n k) sv/\∀b,BE b->jS mw m2 b)/\(∀b,BA b->bo k=some b\/jS mw m2 b)/\m.next<=mw.next/\HO (fun b=>b=d\/∃i,k<i/\bo i=some b) m2 M
theorem QX.set{m M M':Mem}{d q n sz k j:Nat}{α:Type}{E:nB α}{st:Nat->List α}{bo:Nat->Option Nat}{xs:List ae}{a b:ae}{BA:Nat->Prop}(h:QX m d q n sz E st bo xs M BA k)(hk:k<j)(r:HO (fun b=>b=d\/bo j=some b) M M'):QX m d q n sz E st bo ((xs.set (q+2*j) a).set (q+2*j+1) b) M' BA k:=by
 obtain⟨sv,mw,m2,BE,h1,h2,h3,h4,h5,h6⟩:=h;exact⟨sv,mw,m2,BE,by rw[List.getElem?_set_ne aj,List.getElem?_set_ne aj];exact h1,by rw[List.getElem?_set_ne aj,List.getElem?_set_ne aj];exact h2,h3,h4,h5,h6.trans (r.mono fun y _ hy=>hy.elim .inl fun e=> .inr ⟨j,hk,e⟩)⟩
section
variable {K:gI}{fl go sh ga em t sz:Nat}
theorem Sk (hgo:go=X0.Fe\/go=X0.Fc){M:Mem}{t0 bi bf bt t5 d q j:Nat}(h0:M.dv t0 0 1=some [vP d q])(hi:M.dv bi 0 1=some [vI (j:Int)]):rS X0 (.func (.func go) #[] #[vP t0 0,vP bi 0,vP bf 0,vP bt 0,vP t5 0]) M=some (d,q,j):=by
 unfold rS
 show(if go=X0.Fe\/go=X0.Fc then _ else none)=_
 rw[bK hgo]
 show(match M.dv t0 0 1,M.dv bi 0 1 with |some [.pointer (some ⟨d,o,none⟩)],some [.int .i64 i]=>if 0<=i then some (d,o,i.toNat)else none|_,_=>none)=_
 rw[h0,hi]
 show(if(0:Int)<=(j:Int)then some (d,q,((j:Int)).toNat)else none)=_
 rw[bK aj];rfl
theorem Mo (L:Kin fl go sh ga em t)(ht:sZ.contains (t,sz)=true){α:Type}{E:nB α}{X:Nat->Prop}{fs n:Nat}{cap:Array ae}{st:Nat->List α}{m:Mem}{d q:Nat}{cs:List ae}{bo:Nat->Option Nat}{al:Option Nat}(hK:Ej K)(ei:Ar KW m X fs cap E sz st n)(hXd:X d)(hXb:∀k b,bo k=some b->X b)
  (cm:Calm m)(o:Obj m d 0 cs)(hb:m.base<=d)(hB:kN m d q sz cs bo al)(hs:n<9000):
  ∃t M xs b3 b8,(∀t' M',aQ K (jx fl) (bV fl) 5 ⟨t,M,[]⟩ .ret ⟨t',M',[]⟩->aQ K (jx fl) (bV fl) 0 ⟨entry [vP d q,vI n,.func (.func fs) #[] cap],m,[]⟩ .ret ⟨t',M',[]⟩)/\
   dM [3,8] t=[vP b3 0,vP b8 0]/\RO M b3 0 [vP d q]/\m.next<=b3/\m.next<=b8/\(∃N0 Np,Dm M b8 d q N0 Np 4 bo/\m.next<=N0)/\M.base=m.base/\M.home=m.home/\HO (fun b=>b=d\/∃i,bo i=some b) m M/\
   RO M d 0 xs/\xs.length=cs.length/\(∀x,x<q\/q+8<=x->xs[x]?=cs[x]?)/\∃BA:Nat->Nat->Prop,(∀k,k<4->QX m d q n sz E st bo xs M (BA k) k)/\(∀i k b,i<k->k<4->BA i b->¬BA k b)/\∀k b,k<4->BA k b->bo k=some b\/(m.next<=b/\b<M.next):=by
 have g:=cm.gd;have hl:=hB.len;obtain⟨b3,hb3⟩:∃b,b=m.next:=⟨_,rfl⟩;obtain⟨m1,e1,o1,k1,n1,_⟩:=aY g [vP d q];obtain⟨b5,hb5⟩:∃b,b=m1.next:=⟨_,rfl⟩;obtain⟨m2,e2,o2,k2,n2,_⟩:=aY (g.ext k1) [.func (.func fs) #[] cap];obtain⟨b8,hb8⟩:∃b,b=m2.next:=⟨_,rfl⟩;have mn:=k1.aS k2;obtain⟨m3,e3,o3,k3,n3,iN⟩:=aY (g.ext mn) [.int .u64 0,.int .u32 0];rw[<-hb3]at e1 o1;rw[<-hb5]at e2 o2;rw[<-hb8]at e3 o3 iN;have jX:=mn.aS k3;have Qg:=o.lt;have Jm:∀j b,bo j=some b->b<m.next:=fun j b h=>hB.lt h
 obtain⟨t0,w0,e0⟩:=cj (K:=K) (m:=m) (m':=m3) (tm:=entry [vP d q,vI n,.func (.func fs) #[] cap]) (L.abI d q n fs b3 b5 b8 ((n+3) / 4) cap) rfl (.mem e1<| .mem e2<| .mem e3<| .val (size_eq aj _) .nil);have iB:Kl true (((n+3) / 4:Nat):Int) 8=((Kj n:Nat):Int):=Ty _ 8;rw[iB]at e0;have wF:=cm.ext jX;have ako:Kj n<=9000:=by unfold Kj;omega
 obtain⟨e,t1,M,he,hx,rfl,hg,L1,akD,Jq,Oz,hMk,xs,hro,Xb,N9,BAs,fN,DV,DX⟩:=gD (K:=K) (nt:=jx fl) (a:=oH (bV fl) [4]) 4
  (Inv:=fun j tm M=>dM [1,3,5,8,9,18] tm=[vI n,vP b3 0,vP b5 0,vP b8 0,vI (Kj n:Nat),vI j]/\RO M b3 0 [vP d q]/\RO M b5 0 [.func (.func fs) #[] cap]/\((j=0/\M=m3)\/∃N0 Np,Dm M b8 d q N0 Np j bo/\m3.next<=N0)/\M.base=m.base/\M.home=m.home/\m3.next<=M.next/\HO (fun b=>b=d\/∃i,i<j/\bo i=some b) m M/\
   ∃xs,RO M d 0 xs/\xs.length=cs.length/\(∀x,x<q\/q+2*j<=x->xs[x]?=cs[x]?)/\∃BA:Nat->Nat->Prop,(∀k,k<j->QX m d q n sz E st bo xs M (BA k) k)/\(∀i k b,i<k->k<j->BA i b->¬BA k b)/\∀k b,k<j->BA k b->bo k=some b\/(m.next<=b/\b<M.next))
  (dG:=fun e tm M=>e= .exit 0/\dM [3,8] tm=[vP b3 0,vP b8 0]/\RO M b3 0 [vP d q]/\(∃N0 Np,Dm M b8 d q N0 Np 4 bo/\m.next<=N0)/\M.base=m.base/\M.home=m.home/\HO (fun b=>b=d\/∃i,bo i=some b) m M/\
   ∃xs,RO M d 0 xs/\xs.length=cs.length/\(∀x,x<q\/q+8<=x->xs[x]?=cs[x]?)/\∃BA:Nat->Nat->Prop,(∀k,k<4->QX m d q n sz E st bo xs M (BA k) k)/\(∀i k b,i<k->k<4->BA i b->¬BA k b)/\∀k b,k<4->BA k b->bo k=some b\/(m.next<=b/\b<M.next))
  (by
   rintro j tm M hj ⟨hg,L1,hr5,YG,Jq,Oz,hMn,hMk,xs,hro,Xb,N9,BAs,fN,DV,DX⟩;refine .inl ?_;have sdM:Sd M:=by
    rcases YG with⟨_,rfl⟩|⟨N0,Np,h,_⟩
    ·exact wF.gd.sd
    ·exact h.sd
   obtain⟨M1,M2,a1,a2,oi,ka,na⟩:=sdM.Rz (vI 0) (vI j) rfl;have sd2:=sdM.ext ka;have ef:Kl false (jq j (Kj n:Nat)) n=((sW n j:Nat):Int):=by
    have hm:j*Kj n<=3*9000:=Nat.mul_le_mul aj ako;rw[Tu aj,Lw];rfl
   obtain⟨M3,M4,a3,a4,of',kb,nb⟩:=sd2.Rz (vI 0) (vI (sW n j:Nat)) rfl;have sd4:=sd2.ext kb;have et:Kl false (eh (sW n j:Nat) ((Kj n:Nat):Int)) n=((Dv n j:Nat):Int):=by
    have hm:sW n j<=9000:=by unfold sW;omega
    rw[MQ aj,Lw];rfl
   obtain⟨M5,M6,a5,a6,ot,kc,nc⟩:=sd4.Rz (vI 0) (vI (Dv n j:Nat)) rfl;have kM:Kp M M6 eQ:=(ka.aS kb).aS kc;have nM6:M6.next=M.next+3:=aj;obtain⟨bi,hbi⟩:∃b,b=M.next:=⟨_,rfl⟩;obtain⟨bf,hbf⟩:∃b,b=M2.next:=⟨_,rfl⟩;obtain⟨bt,YZ⟩:∃b,b=M4.next:=⟨_,rfl⟩;rw[<-hbi]at a1 a2 oi;rw[<-hbf]at a3 a4 of';rw[<-YZ]at a5 a6 ot;have oi6:=(oi.aU kb).aU kc;have of6:=of'.aU kc;have r3:=L1.ext kM id;have r5:=hr5.ext kM id;have rd:=hro.ext kM id;have l1:aT bi 0 M2=some (vI j,M2):=aO oi rfl;have l2:aT bf 0 M4=some (vI (sW n j:Nat),M4):=aO of' rfl;have Jc:∀x,m.next<=x->∀k,bo k≠some x:=fun x hx k e=>by have :=Jm k x e;omega
   have agT:HO (fun b=>b=d\/∃i,i<j/\bo i=some b) m M6:=hMk.trans (kM.W2.mono fun _ _ h=>h.elim);have AH:∃aV N0 Np,lq b8 d q M6=some aV/\Dm aV b8 d q N0 Np j bo/\m3.next<=N0/\(∀b,b≠b8->aV.blk b=M6.blk b)/\aV.next=M6.next/\aV.base=M6.base/\aV.home=M6.home/\(M.next<N0+0/\N0=M6.next\/Np<=M.next)/\aL M6.bB b3=false/\aL M6.bB bi=false/\(0<j->aV=M6):=by
    rcases YG with⟨rfl,rfl⟩|⟨N0,Np,vg,hN0⟩
    ·have Hl:=wF.ext kM;have ow:=(o3.aU kM);have hp6:(M6.blk b8).pos=1:=by rw[kM.blk b8 aj id];exact iN
     have hd6:aL M6.bB d=false:=by rw[Hl.bB];rfl
     have hB6:kN M6 d q sz xs bo al:=by
      have e1:M6.base=m.base:=by rw[kM.base,Jq]
      have kk:HO eQ m M6:=(jX.aS kM).W2;refine⟨aj,fun j hj=>?_,hB.hi,hB.inj,fun h=>by rw[e1];exact hB.ne h,?_,fun h=>by rw[e1];exact hB.HN h⟩
      ·obtain⟨sv,h1,h2⟩:=hB.sh j hj;exact⟨sv,by rw[N9 _ (.inr aj)];exact h1,h2.ext kk fun _ _ h=>h⟩
      ·obtain⟨sv,h1,h2⟩:=hB.all;exact⟨sv,by rw[N9 _ (.inr aj)];exact h1,h2.ext kk fun _ _ h=>h⟩
     have YT:=Qh Hl (rd.obj hd6) (by rw[kM.base,Jq];exact hb) hB6 ow hp6 (g.own (jX.aS kM) aj) aj (Jc b8 aj);refine⟨_,M6.next,M6.next,YT,⟨⟨Hl.gd.deaf,?_,ai _,Hl.gd.hn,?_⟩,rfl,?_,?_,rfl,?_,aj,⟨fun h=>⟨(hB.ne h).1,hB6.lt h⟩,hB.inj⟩,ai _,ai _⟩,aj,?_,rfl,rfl,rfl,.inl ⟨aj,rfl⟩,by rw[Hl.bB];rfl,by rw[Hl.bB];rfl,fun h=>absurd h aj⟩
     ·show M6.base<=M6.next
      have :=Hl.gd.bf;have :=Hl.gd.fn;omega
     ·intro s hs;have hs:s∈M6.bB:=hs;rw[Hl.bB]at hs;cases hs
     ·show M6.pend.length=0
      rw[Hl.gd.pend];rfl
     ·refine⟨?_,fun k b h=>(hB6.ne h).2⟩
      show M6.base<=d
      rw[kM.base,Jq];exact hb
     ·intro t ht;have ht:t∈M6.bB:=ht;rw[Hl.bB]at ht;cases ht
     ·intro b iL
      show(M6.aZ b8 {}).blk b=_
      rw[Mem.dy,bZ (fun e=>iL e.symm)]
    ·have Yd:=vg.ext kM;have YT:lq b8 d q M6=some M6:=by
      unfold lq;rw[Yd.wg];exact bK rfl
     have hnp:=vg.np;have hn0:=vg.n0;have hdn:=vg.dn;exact⟨M6,N0,Np,YT,Yd,hN0,fun _ _=>rfl,rfl,rfl,rfl,.inr hnp,Yd.Du aj (fun k _=>Jc b3 aj k) (.inl aj),Yd.Du aj (fun k _=>Jc bi aj k) (.inr aj),fun _=>rfl⟩
   obtain⟨aV,N0,Np,YT,aj7,hN0,hb0,hn0,adm,ade,dJ,ag2,ag1,acS⟩:=AH;have ro0:∀{b:Nat}{ys:List ae},RO M6 b 0 ys->b≠b8->RO aV b 0 ys:=fun{b ys} h dO=>by
    have e:=hb0 b dO;exact⟨by rw[hn0];exact h.lt,by rw[e];exact h.kind,by rw[e];exact h.sz,by rw[e];exact h.cs⟩
   have acP:rS X0 (.func (.func go) #[] #[vP b3 0,vP bi 0,vP bf 0,vP bt 0,vP b5 0]) M6=some (d,q,j):=
    Sk L.fill (r3.GC (o:=0) rfl (gu ag2 _ _)) (oi6.ro.GC (o:=0) rfl (gu ag1 _ _))
   have hft:=adu n j;obtain⟨svj,akp,acV⟩:=hB.sh j hj;have hxj:xs[q+2*j]?=some svj:=by rw[N9 _ (.inr (ai _))];exact akp
   have km0:HO (fun b=>b=d\/(∃i,i<j/\bo i=some b)\/m.next<=b) m aV:=⟨by have :=agT.next;omega,fun b h1 h2=>by rw[hb0 b aj];exact agT.blk b h1 fun h=>h2 (h.elim .inl fun h=> .inr (.inl h))⟩;have acW:Room sz aV svj (bo j):=acV.ext km0 fun b e h=>by
    rcases h with h|⟨i,hi,h⟩|h
    ·exact(hB.ne e).1 h
    ·have :=hB.inj h e;omega
    ·have :=Jm j b e;omega
   have ack:∀{b:Nat},M.next<=b->b<M6.next->b≠d/\(∀k,bo k≠some b)/\(b<N0\/Np<=b):=fun h1 h2=>⟨aj,Jc _ aj,by rcases dJ with h|h<;>omega⟩
   obtain⟨sv,mw,mq,BA,BE,M',hgo,aj8,iL,VH,aku,Cd,HK,Jr,ahJ,Og,Oh,hrk⟩:=V1 (m0:=m) (fr:=sW n j) (to:=Dv n j) L ht hK ei hXd hXb aj cm.bB (fun b hb hx=>km0.blk b hb fun h=>by
     rcases h with h|⟨i,_,h⟩|h
     ·exact hx (h▸hXd)
     ·exact hx (hXb i b h)
     ·omega) YT hj aj7 acP (ro0 rd aj) aj hxj acW
    (ro0 r3 aj) (ro0 oi6.ro aj) (ro0 of6.ro aj) (ro0 ot.ro aj) (ro0 r5 aj) (fun x hx=>by
     rcases hx with rfl|rfl|rfl|rfl|rfl
     ·exact⟨aj,Jc _ aj,.inl aj⟩
     ·exact ack aj aj
     ·exact ack aj aj
     ·exact ack aj aj
     ·exact⟨aj,Jc _ aj,.inl aj⟩) hft.1 hft.2 aj
   obtain⟨t2,gm,gA⟩:=bL (K:=K) (m:=M) (m':=M') L.NG (L.abH n b3 b5 b8 j bi bf bt (Kj n:Nat) ((sW n j:Nat):Int)) hg
    (.cond (P3 hj)<| .mem a1<| .mem a2<| .mem l1<| .mem a3<| .mem (by rw[ef];exact a4)<| .mem l2<| .mem a5<| .mem (by rw[et];exact a6)<| .call hgo .nil)
   have nM':=hrk.next;have roM:∀{b:Nat}{ys:List ae},RO M6 b 0 ys->b≠d->bo j≠some b->b≠b8->RO M' b 0 ys:=fun{b ys} h h2 h4 h3=>by
    have e:M'.blk b=M6.blk b:=by rw[hrk.blk b (by have :=h.lt;omega) (fun h=>h.elim h2 h4),hb0 b h3]
    exact⟨by have :=h.lt;omega,by rw[e];exact h.kind,by rw[e];exact h.sz,by rw[e];exact h.cs⟩
   refine⟨t2,M',gm,by rw[gA,add1 aj],roM r3 aj (Jc _ aj j) aj,roM r5 aj (Jc _ aj j) aj,.inr ⟨N0,M'.next,aj8,hN0⟩,by rw[iL,adm,kM.base,Jq],by rw[VH,ade,kM.home,Oz],aj,?_,(xs.set (q+2*j) sv).set (q+2*j+1) (vI 0),aku,by simp[Xb],?_,fun k=>if k=j then BA else BAs k,?_,?_,?_⟩
   ·refine⟨by have :=km0.next;omega,fun b h1 h2=>?_⟩;rw[hrk.blk b (by have :=km0.next;omega) fun h=>h2 (h.elim .inl fun h=> .inr ⟨j,aj,h⟩)];refine km0.blk b h1 fun h=>?_
    rcases h with h|⟨i,hi,h⟩|h
    ·exact h2 (.inl h)
    ·exact h2 (.inr ⟨i,aj,h⟩)
    ·omega
   ·intro x hx;rw[List.getElem?_set_ne aj,List.getElem?_set_ne aj];exact N9 x aj
   ·intro k hk
    by_cases Mb:k<j
    ·have e0:=acS aj;subst e0;simp only[bZ (show¬k=j by omega)];exact(fN k Mb).set Mb ((kM.W2.mono fun _ _ h=>h.elim).trans hrk)
    ·have e:k=j:=aj;subst e;simp only[bK rfl];refine⟨sv,mw,mq,BE,?_,?_,⟨Cd,Jr⟩,HK,by have :=km0.next;omega,⟨aj,fun b _ _=>ahJ b⟩⟩
     ·rw[List.getElem?_set_ne aj,List.getElem?_set_self aj]
     ·rw[List.getElem?_set_self (by simp;omega)]
   ·intro i k b hik hk h1 h2
    by_cases Mb:k=j
    ·simp only[bK Mb]at h2;simp only[bZ (show¬i=j by omega)]at h1;rcases DX i b aj h1 with h1|h1<;>rcases HK b h2 with h2|h2
     ·have :=hB.inj h1 h2;omega
     ·have :=Jm i b h1;have :=h2.1;have :=km0.next;omega
     ·have :=Jm j b h2;omega
     ·have :=h2.1;omega
    ·simp only[bZ Mb]at h2;simp only[bZ (show¬i=j by omega)]at h1;exact DV i k b hik aj h1 h2
   ·intro k b hk h
    by_cases Mb:k=j
    ·simp only[bK Mb]at h;rw[Mb];rcases HK b h with h|h
     ·exact .inl h
     ·exact .inr ⟨by have :=h.1;have :=km0.next;omega,by have :=h.2;omega⟩
    ·simp only[bZ Mb]at h;rcases DX k b aj h with h|h
     ·exact .inl h
     ·exact .inr ⟨h.1,aj⟩)
  (by
   rintro tm M ⟨hg,L1,hr5,YG,Jq,Oz,hMn,hMk,xs,hro,Xb,N9,BAs,fN,DV,DX⟩;obtain⟨t2,gm,gA⟩:=bL (K:=K) (m:=M) (m':=M) L.NG (L.abG n b3 b5 b8 4 (Kj n:Nat)) hg (.cond (Yg 4) .nil);rcases YG with⟨h,_⟩|⟨N0,Np,vg,hN0⟩
   ·omega
   ·exact⟨_,t2,M,nU,gm,rfl,gA,L1,⟨N0,Np,vg,aj⟩,Jq,Oz,hMk.mono fun b _ h=>h.elim .inl fun⟨i,_,h⟩=> .inr ⟨i,h⟩,xs,hro,Xb,N9,BAs,fN,DV,DX⟩)
  (tm:=t0) (m:=m3) ⟨e0,((o1.aU k2).aU k3).ro,(o2.aU k3).ro,.inl ⟨rfl,rfl⟩,jX.base,jX.home,ai _,jX.W2.mono fun _ _ h=>h.elim,cs,(o.aU jX).ro,rfl,fun _ _=>rfl,fun _=>eQ,fun k hk=>absurd hk aj,fun _ k _ _ hk=>absurd hk aj,fun k _ hk=>absurd hk aj⟩ aj
 exact⟨t1,M,xs,b3,b8,fun t' M' h=>aQ.cut w0 (aQ.xp L.acu L.acz hx rfl h),hg,L1,aj,aj,akD,Jq,Oz,hMk,hro,Xb,N9,BAs,fN,DV,DX⟩
end
end Go.AM
namespace Go.AM
set_option maxRecDepth 1000000
open Go Go.Conc Go.Proofs
theorem BJ {α:Type}{st:Nat->List α}:∀(n i:Nat) (acc:List α),gT st n i acc=acc++gT st n i []
 |0,i,acc=>by simp[gT]
 |n+1,i,acc=>by
  unfold gT;rw[BJ n (i+1) (acc++st i),BJ n (i+1) ([]++st i),List.nil_append,List.append_assoc]
theorem IB {α:Type}{st:Nat->List α}:∀(a b i:Nat) (acc:List α),gT st (a+b) i acc=gT st b (i+a) (gT st a i acc)
 |0,b,i,acc=>by rw[Nat.zero_add];rfl
 |a+1,b,i,acc=>by
  rw[show a+1+b=(a+b)+1 by omega]
  show gT st (a+b) (i+1) (acc++st i)=gT st b (i+(a+1)) (gT st a (i+1) (acc++st i))
  rw[IB a b (i+1),show i+1+a=i+(a+1) by omega]
theorem xd {α:Type}{st:Nat->List α}(h1:∀i,(st i).length<=1):∀(n i:Nat) (acc:List α),(gT st n i acc).length<=acc.length+n
 |0,i,acc=>ai _
 |n+1,i,acc=>by
  unfold gT;have h:=xd h1 n (i+1) (acc++st i);have :=h1 i;simp at h;omega
theorem SO {α:Type}{st:Nat->List α}{n:Nat}:gT (PA st n) 4 0 []=gT st n 0 []:=by
 have hto:∀j,Dv n j=sW n (j+1):=fun j=>by
  unfold Dv sW;have :(j+1)*Kj n=j*Kj n+Kj n:=by rw[Nat.add_mul,Nat.one_mul]
  omega
 have step:∀j acc,j<4->gT st (Dv n 3-sW n j) (sW n j) acc=gT st (Dv n 3-sW n (j+1)) (sW n (j+1)) (acc++PA st n j):=fun j acc hj=>by
  have h1:=(adu n j).1;have hm:∀a b,a<=b->sW n a<=sW n b:=fun a b h=>by
   unfold sW;have :=Nat.mul_le_mul_right (Kj n) h;omega
  have h2:=hm (j+1) 4 aj;have h3:Dv n 3=sW n 4:=hto 3;rw[show Dv n 3-sW n j=(Dv n j-sW n j)+(Dv n 3-sW n (j+1)) by rw[h3,hto];have :=hm j (j+1) aj;omega,IB,BJ (Dv n j-sW n j)];rw[show sW n j+(Dv n j-sW n j)=sW n (j+1) by rw[<-hto];omega];rfl
 have e1:sW n 0=0:=by unfold sW;omega
 have e2:Dv n 3=n:=by unfold Dv sW Kj;omega
 have h3:Dv n 3=sW n 4:=hto 3;have :=step 0 [] aj;rw[step 1 _ aj,step 2 _ aj,step 3 _ aj,e1,e2,Nat.sub_zero,show n-sW n 4=0 by rw[<-h3,e2];omega]at this;exact this.symm
section
variable {K:gI}{fl go sh ga em t sz:Nat}
theorem alo (L:Kin fl go sh ga em t)(ht:sZ.contains (t,sz)=true){m:Mem}{d q:Nat}{xs:List ae}{α:Type}{E:nB α}{B0:Nat->Prop}{res:Nat->List α}{al:Option Nat}{Q4:ae}(cm:Calm m)(o:Obj m d 0 xs)(hb:m.base<=d)(hl:q+8<xs.length)(hav:xs[q+8]?=some Q4)(har:Room sz m Q4 al)(adr:∀p,al=some p->p≠d/\m.base<=p)(hB0:∀y,B0 y->y≠d/\al≠some y/\y<m.next)
  (hlen:∀k,(res k).length<=9000)(fN:∀k,k<4->∃sv BO BE,xs[q+2*k]?=some sv/\xs[q+2*k+1]?=some (vI 0)/\mz E sz BO BE m (res k) sv/\(∀b,BO b->b≠d/\al≠some b/\b<m.next)/\∀b,BE b->B0 b):
  ∃rv m' ys pP,Ev K ga [vP d q] m (.tuple #[rv,vI 0]) m'/\Kp m m' (fun y=>y=d\/al=some y)/\Obj m' d 0 ys/\ys.length=xs.length/\(∀x,x≠q+8->ys[x]?=xs[x]?)/\ys[q+8]?=some rv/\Room sz m' rv pP/\(∀p,pP=some p->jS m m' p)/\(aW E sz).R (fun b=>B0 b\/jS m m' b) (gT res 4 0 []) m' rv/\(al=none->gT res 4 0 []=[]->rv= .slice none 0 0/\pP=none):=by
 obtain⟨G,hG⟩:∃G,G=gT res 4 0 []:=⟨_,rfl⟩;rw[<-hG];have hd:=o.lt;obtain⟨a0,n0,c0,rfl⟩:∃a n c,Q4= .slice a n c:=by rcases har with⟨_,rfl⟩|⟨_,_,_,_,rfl,_⟩<;>exact⟨_,_,_,rfl⟩
 obtain⟨Q5,m1,e1,k1,Q9⟩:=ZA (K:=K) L ht (E:=E) har (fun b hb=>cm.own (adr b hb).2);have VX:¬al=some d:=fun e=>(adr d e).1 rfl
 have o1:=o.ext k1 VX;have CL:=cm.ext k1;obtain⟨ba,bc,akq⟩:=Q9.form;obtain⟨m2,e2,o2,k2⟩:=lQ (o:=q+8) Q5 o1 ((CL.own (by rw[k1.base];exact hb)).may _ _) hl Q9.one;have I3:Kp m m2 (fun y=>y=d\/al=some y):=(k1.mono fun _ _ h=> .inr h).trans k2 fun _ _ h=> .inl h
 have n12:=I3.next;have pF:∀p,al=some p->p<m.next:=fun p hp=>by
  rcases har with⟨h,_⟩|⟨b,_,_,h,_,r,_⟩
  ·rw[hp]at h;cases h
  ·rw[hp]at h;cases h;exact r.lt
 have W9:mz E sz (fun y=>al=some y) eQ m2 [] Q5:=Q9.ext k2 fun b hb e=>hb.elim (fun h=>VX (e▸h)) fun h=>h
 subst akq;obtain⟨t0,w0,e0⟩:=cj (K:=K) (m:=m) (m':=m2) (tm:=entry [vP d q]) (L.abE d q n0 c0 0 bc a0 ba) rfl (.mem (aO o hav)<| .call e1<| .mem e2 .nil);obtain⟨e,t1,m3,he,hx,rfl,hg3,k3,sv,pP,o3,hs3,L1,ha3,q3,q4⟩:=gD (K:=K) (nt:=jx ga) (a:=oH (bV ga) [3]) 4
  (Inv:=fun j tm M=>dM [0,13] tm=[vP d q,vI j]/\Kp m M (fun y=>y=d\/al=some y)/\∃acc sv,Obj M d 0 (xs.set (q+8) sv)/\mH sv=true/\acc.length<=j*9000/\gT res (4-j) j acc=G/\
   ((acc=[]/\sv= .slice none 0 0)\/∃b cs rest,sv=vL b 0 acc.length fp/\(al=some b\/jS m M b)/\Obj M b sz (cs++rest)/\cp (fun x u=>E.R B0 x M u/\okV sz u) acc cs/\(0<j->rest=[]/\jS m M b)/\(al=none->acc≠[])))
  (dG:=fun e tm M=>e= .exit 0/\dM [0] tm=[vP d q]/\Kp m M (fun y=>y=d\/al=some y)/\∃sv pP,Obj M d 0 (xs.set (q+8) sv)/\mH sv=true/\Room sz M sv pP/\(∀p,pP=some p->jS m M p)/\(aW E sz).R (fun b=>B0 b\/jS m M b) G M sv/\(al=none->G=[]->sv= .slice none 0 0/\pP=none))
  (by
   rintro j tm M hj ⟨hg,kk,acc,sv,oM,h1,Xk,hq,ei⟩;obtain⟨svk,BO,BE,x1,x2,x3,x4,x5⟩:=fN j hj;obtain⟨bka,bkc,hk⟩:=x3.form;have eo:q+j*2=q+2*j:=aj;have lsk:=x3.ext kk (fun b hb e=>by
    rcases hb with hb|hb
    ·exact e.elim (x4 b hb).1 (x4 b hb).2.1
    ·have :=hB0 b (x5 b hb);exact e.elim this.1 this.2.1)
   obtain⟨gL,f1,f2,f3⟩:=lsk.first;have Oj:=hlen j;have OQ:=cm.ext kk;have nk:=kk.next;have l1:aT d (q+j*2+1) M=some (vI 0,M):=aO oM (by rw[eo,List.getElem?_set_ne aj];exact x2);have l2:aT d (q+8) M=some (sv,M):=aO oM (List.getElem?_set_self hl);have l3:aT d (q+j*2) M=some (svk,M):=aO oM (by rw[eo,List.getElem?_set_ne aj];exact x1);rw[show 4-j=(4-(j+1))+1 by omega]at hq;have hq:gT res (4-(j+1)) (j+1) (acc++res j)=G:=hq;have Xn:=f3.mono (Q':=fun x u=>E.R B0 x M u/\okV sz u) fun x u _ w=>⟨E.mono w.1 x5,w.2⟩
   have G3:∃s' M1,cJ ab #[t,t] sv svk M=some (s',M1)/\Kp M M1 (fun y=>al=some y\/m.next<=y)/\(∃ra rn rc,s'= .slice ra rn rc)/\
     (((acc++res j)=[]/\s'= .slice none 0 0)\/∃b cs,s'=vL b 0 (acc++res j).length fp/\jS m M1 b/\Obj M1 b sz cs/\cp (fun x u=>E.R B0 x M1 u/\okV sz u) (acc++res j) cs/\(al=none->acc++res j≠[])):=by
    rcases ei with⟨rfl,rfl⟩|⟨b,cs,rest,rfl,nA,ob,ik,_,ac6⟩
    ·by_cases h0:(res j).length=0
     ·have L9:res j=[]:=List.length_eq_zero_iff.1 h0;rw[L9]at f1 f2 Xn;have akS:gL=[]:=Xn;rw[akS]at f1;exact⟨_,M,J8 ht f1 f2,.refl _ _,⟨_,_,_,rfl⟩,.inl ⟨by rw[L9];rfl,rfl⟩⟩
     ·obtain⟨M1,a1,a2,a3,a4⟩:=J9 OQ.gd ht f1 f2 Xn.one.1 Xn.one.2 h0 aj;exact⟨_,M1,a1,a3.vF,⟨_,_,_,rfl⟩,.inr ⟨M.next,gL,cY,⟨aj,aj⟩,a2,Xn.mono fun x u _ w=>⟨E.ext w.1 a3 fun _ _ h=>h,w.2⟩,fun _ h=>h0 (by simpa using h)⟩⟩
    ·have Ab:m.base<=b:=by
      rcases nA with h|h
      ·exact(adr b h).2
      ·have :=h.1;have :=cm.gd.bf;have :=cm.gd.fn;omega
     obtain⟨M1,a1,a2,a3,a4⟩:=Da (len:=acc.length) OQ.gd ht ob ik.one.1 (OQ.own (by rw[kk.base];exact Ab)) f1 f2 Xn.one.1 Xn.one.2 aj;have dO:∀y,B0 y->¬y=b:=fun y hy e=>by
      have h':=hB0 y hy;rcases nA with h|h
      ·exact h'.2.1 (e▸h)
      ·have :=h.1;omega
     exact⟨_,M1,a1,a3.mono fun y _ h=>by rw[h];exact nA.imp id fun h=>h.1,⟨_,_,_,rfl⟩,.inr ⟨M.next,cs++gL,cY,⟨aj,aj⟩,a2,(ik.mono fun x u _ w=>⟨E.ext w.1 a3 dO,w.2⟩).append (Xn.mono fun x u _ w=>⟨E.ext w.1 a3 dO,w.2⟩),fun h h'=>ac6 h (List.append_eq_nil_iff.1 h').1⟩⟩
   obtain⟨s',M1,a1,ka,⟨ra,rn,rc,rfl⟩,akr⟩:=G3;have gM1:=OQ.gd.ext ka;have hdM:¬(al=some d\/m.next<=d):=fun h=>h.elim VX fun h=>by omega
   obtain⟨M2,a2,oM2,kb⟩:=lQ (o:=q+8) (.slice ra rn rc) (oM.ext ka hdM) (((OQ.ext ka).own (by rw[ka.base,kk.base];exact hb)).may _ _) (by simpa using hl) rfl;rw[List.set_set]at oM2;obtain⟨aa,an,ac,wB⟩:∃a n c,sv= .slice a n c:=by rcases ei with⟨_,rfl⟩|⟨_,_,_,rfl,_⟩<;>exact⟨_,_,_,rfl⟩
   subst wB;subst hk;obtain⟨t2,gm,gA⟩:=bL (K:=K) (m:=M) (m':=M2) L.NF (L.abD d q j an ac (res j).length bkc rn rc aa bka ra) hg (.cond (P3 hj)<| .idx rfl hj<| .mem l1<| .cond rfl<| .mem l2<| .idx rfl hj<| .mem l3<| .mem (bP OQ.gd)<| .mem a1<| .mem (bP gM1)<| .mem a2 .nil);have n2:=kb.next;have n1:=ka.next;refine .inl ⟨t2,M2,gm,by rw[gA,add1 aj],?_,acc++res j,_,oM2,rfl,by simp;omega,hq,?_⟩
   ·exact(kk.trans ka fun b iL h=>h.elim .inr fun h=>by omega).trans kb fun b _ h=> .inl h
   ·rcases akr with h|⟨b,cs,e,YZ,ob,ik,ac5⟩
    ·exact .inl h
    ·have ry:¬b=d:=by have :=YZ.1;omega
     have ahH:jS m M2 b:=⟨YZ.1,by have :=YZ.2;omega⟩;exact .inr ⟨b,cs,[],e,.inr ahH,by rw[List.append_nil];exact ob.ext kb ry,ik.mono fun x u _ w=>⟨E.ext w.1 kb fun y hy=>(hB0 y hy).1,w.2⟩,fun _=>⟨rfl,ahH⟩,ac5⟩)
  (by
   rintro tm M ⟨hg,kk,acc,sv,oM,h1,Xk,hq,ei⟩;obtain⟨t2,gm,gA⟩:=bL (K:=K) (m:=M) (m':=M) L.NF (L.abB d q 4) hg (.cond (Yg 4) .nil);have hq:acc=G:=hq;subst hq;rcases ei with⟨rfl,rfl⟩|⟨b,cs,rest,rfl,nA,ob,ik,hj,ac5⟩
   ·exact⟨_,t2,M,nU,gm,rfl,gA,kk,_,none,oM,rfl,.inl ⟨rfl,rfl⟩,fun _ h=>(by cases h),aW.nil,fun _ _=>⟨rfl,rfl⟩⟩
   ·obtain⟨rfl,YZ⟩:=hj aj;rw[List.append_nil]at ob;exact⟨_,t2,M,nU,gm,rfl,gA,kk,_,some b,oM,rfl,.inr ⟨b,_,cs,rfl,rfl,ob.ro,by rw[ik.one.1];exact ai _⟩,fun p h=>(by cases h;exact YZ),
     ⟨cs,ob.sl ik.one.1 (.inl rfl),fun b' _ _ _ e=>(by cases e;exact .inr YZ),ik.mono fun x u _ w=>⟨E.mono w.1 fun _ h=> .inl h,w.2⟩⟩,fun h h'=>absurd h' (ac5 h)⟩)
  (tm:=t0) (m:=m2) ⟨e0,I3,[],_,o2,rfl,Nat.zero_le _,hG.symm,by
   rcases W9 with h|⟨b,cs,rest,e,Ks,_,ob,ik⟩
   ·exact .inl h
   ·have ik:cs=[]:=ik;subst ik;exact .inr ⟨b,[],rest,e,.inl Ks.1,ob,rfl,fun h=>absurd h aj,fun h=>(by rw[h]at Ks;exact absurd Ks.1 cY)⟩⟩ aj
 have l4:aT d (q+8) m3=some (sv,m3):=aO o3 (List.getElem?_set_self hl);obtain⟨t2,h2,e3⟩:=cj (K:=K) (m:=m3) (m':=m3) (L.abA d q sv) hg3 (.mem l4 .nil);exact⟨sv,m3,_,pP,fW L.acb (aQ.cut w0 (aQ.xp L.acs L.acy hx rfl (aQ.last h2 L.UY))) (.inr rfl) e3 L.spec.2.2.2.1,k3,o3,cY,fun x hx=>List.getElem?_set_ne (fun e=>hx e.symm),List.getElem?_set_self hl,L1,ha3,q3,q4⟩
end
end Go.AM
namespace Go.AM
set_option maxRecDepth 1000000
open Go Go.Conc Go.Proofs
theorem agC (a:Option Addr)(k:Int):Path 116 [.slice a 0 0,fR]
 [.val (pu ab [vI 0] (convert 3 195 (vI 0))) (.int .u64 0),
  .call 153 [.int .u64 0] (vI k),
  .call 152 [.slice a 0 0,vI 0,vI 0,vI k,fR] (.tuple #[])]
 (.tuple #[]):=fu
theorem afj (a:Option Addr)(k:Int):eS 152 0 2 [0,1,2,3,4] [.slice a 0 0,vI 0,vI 0,vI k,fR]
 []
 .normal [0,1,2,3,4] [.slice a 0 0,vI 0,vI 0,vI k,fR]:=iD
theorem abt (a:Option Addr)(k:Int):eA 152 [2] 0 99 [0,1,2,3,4] [.slice a 0 0,vI 0,vI 0,vI k,fR]
 [lN,
  .call 205 [.slice a 0 0,vI 0,vI 0,fR] (.tuple #[])]
 .ret [] []:=iD
theorem aeV (a:Option Addr):eS 205 0 1 [0,1,2,3] [.slice a 0 0,vI 0,vI 0,fR]
 []
 .normal [0,1,2,3,8] [.slice a 0 0,vI 0,vI 0,fR,vI 1]:=iD
theorem abr:eA 205 [1] 0 99 [2,8] [vI 0,vI 1]
 [dH]
 (.exit 0) [] []:=iD
section
variable {K:gI}{m:Mem}
theorem adM {a:Option Addr}:Ev K 116 [.slice a 0 0,fR] m (.tuple #[]) m:=by
 have h5:Ev K 205 [.slice a 0 0,vI 0,vI 0,fR] m (.tuple #[]) m:=by
  obtain⟨t0,w0,e0⟩:=cj (K:=K) (m:=m) (m':=m) (tm:=entry [.slice a 0 0,vI 0,vI 0,fR]) (aeV a) rfl .nil;obtain⟨e,t1,m5,he,hx,rfl,rfl⟩:=gD (K:=K) (nt:=jx 205) (a:=fT 205 [1]) 0
   (Inv:=fun j tm m'=>m'=m/\dM [0,1,2,3,8] tm=[.slice a 0 0,vI 0,vI 0,fR,vI 1])
   (dG:=fun e tm m'=>e= .exit 0/\m'=m)
   (fun j tm m' hj=>absurd hj aj)
   (by
    rintro tm m' ⟨rfl,hg⟩;have GX:dM [2,8] tm=[vI 0,vI 1]:=by
     simp only[dM,List.map_cons,List.map_nil,List.cons.injEq,and_true]at hg⊢;exact⟨hg.2.2.1,hg.2.2.2.2⟩
    obtain⟨t2,gm,gA⟩:=bL (K:=K) (m:=m') (m':=m') AU abr GX (.cond rfl .nil);exact⟨_,t2,m',nU,gm,rfl,rfl⟩)
   (tm:=t0) (m:=m) ⟨rfl,e0⟩ aj
  exact fW (vs:=[]) aad (aQ.cut w0 (aQ.sK hx (aQ.done Ls))) (.inl rfl) rfl
 have h2:∀k:Int,Ev K 152 [.slice a 0 0,vI 0,vI 0,vI k,fR] m (.tuple #[]) m:=fun k=>by
  obtain⟨t0,w0,e0⟩:=cj (K:=K) (m:=m) (m':=m) (tm:=entry [.slice a 0 0,vI 0,vI 0,vI k,fR]) (afj a k) rfl .nil;obtain⟨e,t1,m5,he,hx,rfl,rfl⟩:=gD (K:=K) (nt:=jx 152) (a:=fT 152 [2]) 0
   (Inv:=fun j tm m'=>m'=m/\dM [0,1,2,3,4] tm=[.slice a 0 0,vI 0,vI 0,vI k,fR])
   (dG:=fun e tm m'=>e= .ret/\m'=m)
   (fun j tm m' hj=>absurd hj aj)
   (by
    rintro tm m' ⟨rfl,hg⟩;obtain⟨t2,gm,gA⟩:=bL (K:=K) (m:=m') (m':=m') Gj (abt a k) hg (.cond rfl<| .call h5 .nil);exact⟨_,t2,m',nU,gm,rfl,rfl⟩)
   (tm:=t0) (m:=m) ⟨rfl,e0⟩ aj
  exact fW (vs:=[]) aae (aQ.cut w0 (aQ.ES NV NW hx bG)) (.inr rfl) rfl
 exact aJ (agC a _) (.val bG<| .call (show Ev K 153 [.int .u64 0] m (vI (Sort.bitsLen 0:Int)) m from ait (l:=0) gC)<| .call (h2 _) .nil)
end
end Go.AM
namespace Go.AM
set_option maxRecDepth 1000000
open Go Go.Conc Go.Proofs
theorem RA {B:Nat->Prop}{m:Mem}:∀{d:List El},(∀x∈d,bS.R B x.2 m x.1)->cp (fun x u=>bS.R B x m u/\okV 1 u) (d.map (·.2)) (d.map (·.1))
 | [],_=>rfl
 |x::d,h=>by
  have hx:=h x (List.mem_cons_self ..);refine⟨x.1,d.map (·.1),?_,⟨hx,bS.ok hx⟩,RA fun y hy=>h y (List.mem_cons_of_mem _ hy)⟩;obtain⟨b,c,e,_⟩:=hx;rw[List.map_cons,e];rfl
end Go.AM
namespace Go.AM
set_option maxRecDepth 1000000
open Go Go.Conc Go.Proofs
section
variable {K:gI}{fl go sh ga em t sz:Nat}
theorem aih (L:Kin fl go sh ga em t)(ht:sZ.contains (t,sz)=true){α:Type}{E:nB α}{X:Nat->Prop}{fs n:Nat}{cap:Array ae}{st:Nat->List α}{m:Mem}{d q:Nat}{cs:List ae}{bo:Nat->Option Nat}{al:Option Nat}(hK:Ej K)(ei:Ar KW m X fs cap E sz st n)(hE:E.Dl)(hXd:X d)(hXb:∀k b,bo k=some b->X b)
  (cm:Calm m)(o:Obj m d 0 cs)(hb:m.base<=d)(hB:kN m d q sz cs bo al)(hs:n<9000):
  ∃rv m' ys uT pP,Ev K fl [vP d q,vI n,.func (.func fs) #[] cap] m (.tuple #[rv,vI 0]) m'/\Kp m m' (fun y=>y=d\/(∃i,bo i=some y)\/al=some y)/\Obj m' d 0 ys/\ys.length=cs.length/\(∀x,x<q\/q+9<=x->ys[x]?=cs[x]?)/\
   kN m' d q sz ys uT pP/\(∀j b,uT j=some b->bo j=some b\/jS m m' b)/\(∀p,pP=some p->jS m m' p)/\ys[q+8]?=some rv/\(aW E sz).R (jS m m') (gT st n 0 []) m' rv/\(al=none->gT st n 0 []=[]->rv= .slice none 0 0/\pP=none):=by
 obtain⟨t,M,xs,b3,b8,nP,hg,L1,h3n,h8n,⟨N0,Np,vg,hN0⟩,Jq,Oz,hMk,hro,Xb,N9,BA,fN,DV,DX⟩:=Mo L ht hK ei hXd hXb cm o hb hB hs;have Qg:=o.lt;have hMn:=hMk.next;have hlen:=hB.len;have Jm:∀j b,bo j=some b->b<m.next:=fun j b h=>hB.lt h
 have di:M.opn=[]:=vg.opn;have e1:=alQ hK vg.wg vg.sd.deaf di (by have :=vg.sd.bf;have :=vg.sd.fn;omega);obtain⟨mf,VB⟩:∃mf,mf=B6 M:=⟨_,rfl⟩;rw[<-VB]at e1;have nf:mf.next=M.next:=by rw[VB];rfl
 have bf:∀b,mf.blk b=M.blk b:=fun b=>by rw[VB];rfl
 have ahv:mf.bB=[]:=by rw[VB];rfl
 have kf:Kp m mf (fun y=>y=d\/∃i,bo i=some y):=by
  refine⟨aj,ahv.trans cm.bB.symm,?_,?_,?_,?_,?_,?_,?_,fun b h1 h2=>(bf b).trans (hMk.blk b h1 h2)⟩
  ·rw[VB];exact di.trans cm.opn.symm
  ·rw[VB];exact Jq
  ·rw[VB];exact Oz
  ·rw[VB];exact Jq.trans cm.floor.symm
  ·rw[VB];exact cm.wg.symm
  ·rw[VB];exact cm.gd.pend.symm
  ·rw[VB];exact vg.sd.deaf.trans cm.gd.deaf.symm
 have cmf:=cm.ext kf;have vl:m.base<=m.next:=by have :=cm.gd.bf;have :=cm.gd.fn;omega
 have tf:∀b,aL mf.bB b=false:=fun b=>by rw[ahv];rfl
 have ro:∀{b sz:Nat}{ys:List ae},RO M b sz ys->RO mf b sz ys:=fun{b sz ys} h=>⟨by rw[nf];exact h.lt,by rw[bf];exact h.kind,by rw[bf];exact h.sz,by rw[bf];exact h.cs⟩
 have l3:aT b3 0 mf=some (vP d q,mf):=aO ((ro L1).obj (tf _)) rfl;have aha:∀k,k<4->∃sv BE,xs[q+2*k]?=some sv/\xs[q+2*k+1]?=some (vI 0)/\mz E sz (BA k) BE mf (PA st n k) sv/\∀b,BE b->jS m mf b:=by
  intro k hk;obtain⟨sv,mw,m2,BE,h1,h2,⟨h3,Jr⟩,h4,h5,h6⟩:=fN k hk;have h6n:=h6.next;have sm:∀{S:Nat->Prop},(∀b,S b->b≠d/\∀i,k<i->bo i≠some b)->sx S m2 mf:=fun hS=>⟨aj,fun b hb hl=>⟨(bf b).trans (h6.blk b hl fun h=>h.elim (hS b hb).1 fun⟨i,hi,h⟩=>(hS b hb).2 i hi h),fun _=>tf b⟩⟩
  refine⟨sv,BE,h1,h2,h3.jc hE (sm fun b hb=>?_) (sm fun b hb=>?_) (fun b hb=>cmf.own ?_),fun b hb=>⟨by have :=(Jr b hb).1;omega,by have :=(Jr b hb).2;omega⟩⟩
  ·rcases h4 b hb with h|h
   ·exact⟨(hB.ne h).1,fun i hi h'=>by have :=hB.inj h h';omega⟩
   ·have :=h.1;exact⟨aj,fun i hi h'=>by have :=Jm i b h';omega⟩
  ·have :=(Jr b hb).1;exact⟨aj,fun i hi h'=>by have :=Jm i b h';omega⟩
  ·rw[kf.base];rcases h4 b hb with h|h
   ·exact(hB.ne h).2
   ·have :=h.1;omega
 have HK:∀k b,k<4->BA k b->b≠d/\al≠some b/\b<mf.next:=fun k b hk h=>by
  obtain⟨Q4,_,hra⟩:=hB.all;rcases DX k b hk h with h|h
  ·exact⟨(hB.ne h).1,fun e=>(hB.HN e).2.2 k h,by have :=Jm k b h;omega⟩
  ·refine⟨aj,fun e=>?_,aj⟩;rcases hra with⟨h',_⟩|⟨b',_,_,h',_,r,_⟩
   ·rw[e]at h';cases h'
   ·rw[e]at h';cases h';have :=r.lt;omega
 obtain⟨Q4,hav,hra⟩:=hB.all;have Xk:∀p,al=some p->p<m.next:=fun p hp=>by
  rcases hra with⟨h,_⟩|⟨b,_,_,h,_,r,_⟩
  ·rw[hp]at h;cases h
  ·rw[hp]at h;cases h;exact r.lt
 have akw:Room sz mf Q4 al:=hra.ext kf.W2 fun b e h=>by
  rcases h with h|⟨i,h⟩
  ·exact(hB.HN e).1 h
  ·exact(hB.HN e).2.2 i h
 obtain⟨rv,m',ys,pP,e2,k2,o2,hyl,hyo,hy8,wC,mQ,q',q4⟩:=alo (K:=K) (E:=E) (B0:=jS m mf) (res:=PA st n) (xs:=xs) (q:=q) (Q4:=Q4) (al:=al) L ht cmf ((ro hro).obj (tf _)) (by rw[kf.base];exact hb) aj (by rw[N9 _ (.inr (ai _))];exact hav) akw (fun p hp=>⟨(hB.HN hp).1,by rw[kf.base];exact(hB.HN hp).2.1⟩)
  (fun y hy=>⟨by have :=hy.1;omega,fun e=>by have :=Xk y e;have :=hy.1;omega,hy.2⟩)
  (fun k=>by
   have h1:=adu n k;have h2:=xd (st:=st) ei.one (Dv n k-sW n k) (sW n k) [];unfold PA;simp at h2;omega) (fun k hk=>by
   obtain⟨sv,BE,h1,h2,h3,h4⟩:=aha k hk;exact⟨sv,BA k,BE,h1,h2,h3,fun b hb=>HK k b hk hb,h4⟩)
 rw[SO]at q' q4;have n2:=k2.next;have cm':=cmf.ext k2;obtain⟨t2,h2,e3⟩:=cj (K:=K) (m:=M) (m':=m') (L.abF b3 b8 d q rv 0) hg (.call e1<| .mem l3<| .call e2 .nil);have kk:Kp m m' (fun y=>y=d\/(∃i,bo i=some y)\/al=some y):=(kf.mono fun _ _ h=>h.imp id .inl).trans k2 fun b _ h=>h.imp id .inr
 have hex:∀k,∃ob:Option Nat,k<4->∃sv,xs[q+2*k]?=some sv/\Room sz m' sv ob/\∀b,ob=some b->BA k b:=by
  intro k
  by_cases hk:k<4
  ·obtain⟨sv,BE,h1,h2,h3,h4⟩:=aha k hk;rcases h3 with⟨_,rfl⟩|⟨b,c1,c2,rfl,iL,_,ob,ik⟩
   ·exact⟨none,fun _=>⟨_,h1,.inl ⟨rfl,rfl⟩,fun _ h=>(by cases h)⟩⟩
   ·have nA:=HK k b hk iL.1;exact⟨some b,fun _=>⟨_,h1,.inr ⟨b,_,_,rfl,rfl,ob.ro.ext k2 (fun h=>h.elim nA.1 nA.2.1),by have :=ik.one.1;simp;omega⟩,fun _ h=>(by cases h;exact iL.1)⟩⟩
  ·exact⟨none,fun h=>absurd h hk⟩
 obtain⟨bo1,ahI⟩:=Classical.axiomOfChoice hex;have Ks:∀j b,(if j<4 then bo1 j else none)=some b->j<4/\BA j b:=fun j b h=>by
  split at h
  ·rename_i hj;obtain⟨_,_,_,h3⟩:=ahI j hj;exact⟨hj,h3 b h⟩
  ·cases h
 have dO:∀{j b},(if j<4 then bo1 j else none)=some b->b≠d/\m'.base<=b:=fun{j b} h=>by
  obtain⟨hj,hBb⟩:=Ks j b h;refine⟨(HK j b hj hBb).1,?_⟩;rw[k2.base,kf.base];rcases DX j b hj hBb with h|h
  ·exact(hB.ne h).2
  ·omega
 refine⟨rv,m',ys,fun j=>if j<4 then bo1 j else none,pP,fW L.acd (nP _ _ (aQ.last h2 L.UZ)) (.inr rfl) e3 L.spec.2.2.2.2,kk,o2,hyl.trans Xb,fun x hx=>by rw[hyo x aj];exact N9 x aj,⟨aj,fun j hj=>?_,fun j hj=>bZ aj,fun{i j b} h1 h2=>?_,dO,⟨rv,hy8,wC⟩,fun{p} hp=>?_⟩,fun j b h=>?_,fun p hp=>⟨by have :=(mQ p hp).1;omega,(mQ p hp).2⟩,hy8,?_,q4⟩
 ·obtain⟨sv,h1,h2,_⟩:=ahI j hj;exact⟨sv,by rw[hyo _ aj];exact h1,by simp only[bK hj];exact h2⟩
 ·obtain⟨hi,h1⟩:=Ks i b h1;obtain⟨hj,h2⟩:=Ks j b h2;rcases Nat.lt_trichotomy i j with h|h|h
  ·exact absurd h2 (DV i j b h hj h1)
  ·exact h
  ·exact absurd h1 (DV j i b h hi h2)
 ·have du:=mQ p hp;refine⟨by have :=du.1;omega,by rw[k2.base,kf.base];have :=du.1;omega,fun j h=>?_⟩;obtain⟨hj,hBb⟩:=Ks j p h;have :=(HK j p hj hBb).2.2;have :=du.1;omega
 ·obtain⟨hj,hBb⟩:=Ks j b h;rcases DX j b hj hBb with h|h
  ·exact .inl h
  ·exact .inr ⟨h.1,aj⟩
 ·exact(aW E sz).mono q' fun b hb=>hb.elim (fun h=>⟨h.1,by have :=h.2;omega⟩) fun h=>⟨by have :=h.1;omega,h.2⟩
end
end Go.AM
namespace Go.AM
set_option maxRecDepth 1000000
open Go Go.Conc Go.Proofs
def yl (r:List Nat):ae:= .agg (r.map fun(n:Nat)=>ae.int .i32 n).toArray
abbrev Gb (r:List Nat):List ae:=r.map fun(n:Nat)=>ae.int .i32 n
abbrev sY:nB (List Nat):=ku yl
theorem Su {r:List Nat}(h:r.length=6):okV 6 (yl r):=⟨by simp[yl,ae.cells,h],fun y hy=>by
 simp only[yl,ae.cells,List.mem_map]at hy;obtain⟨n,_,rfl⟩:=hy;rfl⟩
theorem Nq {r:List Nat}(h:okV 6 (yl r)):r.length=6:=by simpa[yl,ae.cells]using h.1
noncomputable def xA:V:=⟨0,0,⟨Array.replicate (2^60) 0⟩,false⟩
theorem tP:¬iw xA:=by
 unfold iw xA
 show¬(Array.replicate (2^60) (0:UInt8)).size<2^60
 rw[Array.size_replicate];omega
noncomputable def rF(Tb:Nat->Option (List (List V)))(r:List Nat)(p:Nat)(i j:Int):V:=match Tb p with
 |none=>xA
 |some rows=>if 0<=i/\0<=j then(match r[i.toNat]? with
  |none=>xA
  |some x=>match rows[x]? with
   |none=>xA
   |some row=>match row[j.toNat]? with
    |none=>xA
    |some u=>u)else xA
theorem Qu {Tb:Nat->Option (List (List V))}{r:List Nat}{p:Nat}{i j:Int}(h:iw (rF Tb r p i j)):∃rows x row,Tb p=some rows/\0<=i/\0<=j/\r[i.toNat]?=some x/\rows[x]?=some row/\row[j.toNat]?=some (rF Tb r p i j):=by
 unfold rF at h⊢
 split at h
 ·exact absurd h tP
 ·rename_i rows hp;simp only[hp]
  split at h
  ·rename_i sN;rw[bK sN]
   split at h
   ·exact absurd h tP
   ·rename_i x hx
    split at h
    ·exact absurd h tP
    ·rename_i row hr
     split at h
     ·exact absurd h tP
     ·rename_i u hu;exact⟨rows,x,row,rfl,sN.1,sN.2,hx,hr,hu⟩
  ·exact absurd h tP
def fM (BT:Nat->Prop)(Tb:Nat->Option (List (List V)))(m:Mem):Prop:=∀p rows,Tb p=some rows->BT p/\∃cl rl,Obj m p 0 [cl,rl]/\(aW bS 1).R BT rows m rl
theorem fM.ext{BT S:Nat->Prop}{Tb:Nat->Option (List (List V))}{m m':Mem}(h:fM BT Tb m)(k:Kp m m' S)(hS:∀b,BT b->¬S b):fM BT Tb m':=fun p rows hp=>by
 obtain⟨h1,cl,rl,o,q⟩:=h p rows hp;exact⟨h1,cl,rl,o.ext k (hS p h1),(aW bS 1).ext q k hS⟩
theorem fM.same{BT:Nat->Prop}{Tb:Nat->Option (List (List V))}{m m':Mem}(h:fM BT Tb m)(s:sx BT m m'):fM BT Tb m':=fun p rows hp=>by
 obtain⟨h1,cl,rl,o,q⟩:=h p rows hp;exact⟨h1,cl,rl,o.nF s h1,aW.jc bS.jc _ _ _ _ _ q s⟩
def Dk (BT:Nat->Prop)(Tb:Nat->Option (List (List V)))(r:List Nat)(b o sz:Nat)(m:Mem):Prop:=(∃cs,Obj m b sz cs/\(cs.drop o).take 6=Gb r/\o+6<=cs.length)/\fM BT Tb m
theorem aju (b pr o p i j x pt nt ct q nq cq s:Nat)(u:V):Path 351 [vP b 0,vP pr o]
 [dZ nY s,
  .mem (aT b 0) (vP p 0),
  .mem (aT p 1) (vL pt 0 nt ct),
  .mem (aT b 1) (vI i),
  .idx i 6 i,
  .mem (aT pr (o+i*1)) (.int .i32 x),
  .idx x nt x,
  .mem (aT pt (0+x*1)) (vL q 0 nq cq),
  .mem (aT b 2) (vI j),
  .idx j nq j,
  .mem (fg 4 q (0+j*4)) (bQ u),
  pT,
  jQ s 0 (sE u),
  sD 49 s (bQ u)]
 (.tuple #[bQ u,vI 0]):=fu
theorem aez {cs:List ae}{r:List Nat}{o i x:Nat}(h:(cs.drop o).take 6=Gb r)(hx:r[i]?=some x):cs[o+i]?=some (.int .i32 x):=by
 have h1:(Gb r)[i]?=some (.int .i32 x):=by rw[List.getElem?_map,hx];rfl
 rw[<-h]at h1;have hi:i<6:=by
  rcases Nat.lt_or_ge i 6 with hi|hi
  ·exact hi
  ·rw[List.getElem?_eq_none (by simp;omega)]at h1;cases h1
 rw[List.getElem?_take_of_lt hi,List.getElem?_drop]at h1;exact h1
section
variable {K:gI}{m m':Mem}{BT:Nat->Prop}{Tb:Nat->Option (List (List V))}
theorem Dk.aU{r:List Nat}{b o sz:Nat}(h:Dk BT Tb r b o sz m)(k:Kp m m' eQ):Dk BT Tb r b o sz m':=by
 obtain⟨⟨cs,h1,h2⟩,h3⟩:=h;exact⟨⟨cs,h1.aU k,h2⟩,h3.ext k fun _ _ h=>h⟩
theorem Sn {r:List Nat}{pr o sz:Nat}:Scope K (Dk BT Tb r pr o sz) (rF Tb r) (vP pr o):=by
 refine⟨fun m m' h k=>h.aU k,?_⟩;intro p i j m b hs g ⟨⟨cs,ajV,ik,hlen⟩,jL⟩ ob;obtain⟨rows,x,row,hp,hi,hj,hx,hr,hu⟩:=Qu hs;obtain⟨_,cl,rl,ot,qt⟩:=jL p rows hp;generalize rF Tb r p i j=u at*;obtain⟨i,rfl⟩:∃k:Nat,i=k:=⟨i.toNat,aj⟩;obtain⟨j,rfl⟩:∃k:Nat,j=k:=⟨j.toNat,aj⟩;rw[Int.toNat_natCast]at hx hu;have Xb:x<rows.length:=(List.getElem?_eq_some_iff.1 hr).1;have hxr:=(List.getElem?_eq_some_iff.1 hr).2;obtain⟨pt,ct,uv,ucs,rfl,_,otr,hut,_,afH,ovr⟩:=aW.get qt Xb;rw[hxr]at afH;obtain⟨q,cq,rfl,_,oq,_⟩:=afH;have Oo:j<row.length:=(List.getElem?_eq_some_iff.1 hu).1;obtain⟨m1,e1,o1,k1,n1,_⟩:=aY g [vI 0,vI 0,.string .empty,.bool false];have g1:=g.ext k1;have ob1:=ob.aU k1;obtain⟨m2,e2,o2,k2⟩:=lh (o:=0) u.cells o1 ((g.own k1 (ai _)).may _ _) (by simp[V.cells]) rfl;have I3:Kp m m2 eQ:=k1.trans (k2.mono (S':=fun y=>y=m.next) fun _ _ h=>h) fun b hb e=>by omega
 have hi6:i<6:=by
  have h6:r.length<=6:=by
   have :=congrArg List.length ik;simp at this;omega
  have :=(List.getElem?_eq_some_iff.1 hx).1;omega
 have lt2:aT pt (0+x*1) m1=some (vL q 0 row.length cq,m1):=by
  refine aO (otr.aU k1) ?_;have h1:(ucs.drop (x*1)).take 1=[vL q 0 row.length cq]:=hut;have :=congrArg (·[0]?) h1;simpa using this
 have lv:fg 4 q (0+j*4) m1=some (u.val,m1):=by
  refine bY (vs:=u.cells) (oq.aU k1) ?_ ?_
  ·rw[Nat.zero_add];exact vw hu
  ·rw[iq];omega
 have lE:pz ab 49 (vP m.next 0) m2=some (u.val,m2):=by
  exact nK o2 rfl bG bG
 exact⟨m2,aJ (aju b pr o p i j x pt rows.length ct q row.length cq m.next u) (.mem e1<| .mem (aO ob1 rfl)<| .mem (aO (ot.aU k1) rfl)<| .mem (aO ob1 rfl)<| .idx rfl hi6<| .mem (aO (ajV.aU k1) (by rw[Nat.mul_one];exact aez ik hx))<| .idx rfl Xb<| .mem lt2<| .mem (aO ob1 rfl)<| .idx rfl Oo<| .mem lv<| .mem (bP g1)<| .mem e2<| .mem lE .nil),I3⟩
end
end Go.AM
