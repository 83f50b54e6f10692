/-
  What the claim stands on, part 17.
-/
import Derived.Test.YtgfppohfgconeaaGreatDoorN13
import Derived.Test.YtgfppohfgconeaaGreatDoorN14
import Derived.Test.YtgfppohfgconeaaGreatDoorN15
import Derived.Test.YtgfppohfgconeaaGreatDoorN16
import Derived.ChangeFn
import Derived.ProofKit
import Derived.SizedLaws
import Derived.Handed
import Derived.RowKit
import Derived.Carry
import Derived.Lay
import Derived.WideWitness
set_option linter.unusedVariables false
set_option linter.unusedSimpArgs false
open Go.Proofs.Tryz renaming prog → ab
open Go renaming Value → ae, World → ay, Program → aD, TypeId → aM, IntKind → bX
open Nat renaming le_of_ble_eq_true → af, le_refl → ai
open Bool renaming and_eq_true → ag
open Option.some renaming injEq → ah
open Prod.mk renaming injEq → au
open Option renaming map_eq_some_iff → aB, bind_some → aX, map_some → cT, isSome_iff_exists → iz
open List renaming mem_cons → aR
namespace Go.AM
set_option maxRecDepth 1000000
open Go Go.Conc Go.Proofs
set_option maxHeartbeats 2000000 in
theorem acD{al sg tg:Bool}{i j:Nat}(h1:1<=i/\i<=4)(h2:1<=j/\j<=4)(h3:sg=false->tg=false/\i<=3/\i<=j)(h4:tg=true->j<=i):LF al sg tg i j:=by
 have a:=h3;have c:=h4;cases al<;>cases sg<;>cases tg<;>simp at a c
 ·obtain rfl|rfl|rfl:i=1\/i=2\/i=3:=aj
  ·obtain rfl|rfl|rfl|rfl:j=1\/j=2\/j=3\/j=4:=aj
   ·exact UT
   ·exact US
   ·exact UR
   ·exact UQ
  ·obtain rfl|rfl|rfl:j=2\/j=3\/j=4:=aj
   ·exact UP
   ·exact UO
   ·exact UN
  ·obtain rfl|rfl:j=3\/j=4:=aj
   ·exact UM
   ·exact UL
 ·obtain rfl|rfl|rfl|rfl:i=1\/i=2\/i=3\/i=4:=aj
  ·obtain rfl|rfl|rfl|rfl:j=1\/j=2\/j=3\/j=4:=aj
   ·exact UK
   ·exact UJ
   ·exact UI
   ·exact UH
  ·obtain rfl|rfl|rfl|rfl:j=1\/j=2\/j=3\/j=4:=aj
   ·exact UG
   ·exact UF
   ·exact UE
   ·exact UD
  ·obtain rfl|rfl|rfl|rfl:j=1\/j=2\/j=3\/j=4:=aj
   ·exact UC
   ·exact UB
   ·exact UA
   ·exact Uz
  ·obtain rfl|rfl|rfl|rfl:j=1\/j=2\/j=3\/j=4:=aj
   ·exact Uy
   ·exact Ux
   ·exact Uw
   ·exact Uv
 ·obtain rfl|rfl|rfl|rfl:i=1\/i=2\/i=3\/i=4:=aj
  ·obtain rfl:j=1:=aj;exact Uu
  ·obtain rfl|rfl:j=1\/j=2:=aj
   ·exact Ut
   ·exact Us
  ·obtain rfl|rfl|rfl:j=1\/j=2\/j=3:=aj
   ·exact Ur
   ·exact Uq
   ·exact Up
  ·obtain rfl|rfl|rfl|rfl:j=1\/j=2\/j=3\/j=4:=aj
   ·exact Uo
   ·exact Un
   ·exact Um
   ·exact Ul
 ·obtain rfl|rfl|rfl:i=1\/i=2\/i=3:=aj
  ·obtain rfl|rfl|rfl|rfl:j=1\/j=2\/j=3\/j=4:=aj
   ·exact Uk
   ·exact Uj
   ·exact Ui
   ·exact Uh
  ·obtain rfl|rfl|rfl:j=2\/j=3\/j=4:=aj
   ·exact Ug
   ·exact Uf
   ·exact Ue
  ·obtain rfl|rfl:j=3\/j=4:=aj
   ·exact Ud
   ·exact Uc
 ·obtain rfl|rfl|rfl|rfl:i=1\/i=2\/i=3\/i=4:=aj
  ·obtain rfl|rfl|rfl|rfl:j=1\/j=2\/j=3\/j=4:=aj
   ·exact Ub
   ·exact Ua
   ·exact T9
   ·exact T7
  ·obtain rfl|rfl|rfl|rfl:j=1\/j=2\/j=3\/j=4:=aj
   ·exact T6
   ·exact T5
   ·exact T4
   ·exact T3
  ·obtain rfl|rfl|rfl|rfl:j=1\/j=2\/j=3\/j=4:=aj
   ·exact T2
   ·exact T0
   ·exact TZ
   ·exact TY
  ·obtain rfl|rfl|rfl|rfl:j=1\/j=2\/j=3\/j=4:=aj
   ·exact TX
   ·exact TW
   ·exact TV
   ·exact TU
 ·obtain rfl|rfl|rfl|rfl:i=1\/i=2\/i=3\/i=4:=aj
  ·obtain rfl:j=1:=aj;exact TT
  ·obtain rfl|rfl:j=1\/j=2:=aj
   ·exact TS
   ·exact TR
  ·obtain rfl|rfl|rfl:j=1\/j=2\/j=3:=aj
   ·exact TQ
   ·exact TN
   ·exact TM
  ·obtain rfl|rfl|rfl|rfl:j=1\/j=2\/j=3\/j=4:=aj
   ·exact TL
   ·exact TK
   ·exact TJ
   ·exact TH
end Go.AM
namespace Go.AM
set_option maxRecDepth 1000000
open Go Go.Conc Go.Proofs Go.Proofs.YtgfppohfgconeaaGreatDoor
theorem rY {P:aD}{w:ay}:∀{laid:List (String×DataW Unit)} {ps:List MemPlace},DataW.LaidVars P w laid ps->∀x∈laid,∃g t cs fuel p,P.globalNamed x.1=some g/\(P.globals[g]?).map (·.type)=some t/\w.var? P x.1=some cs/\
  DataW.trod (fun _=>()) P w 0 (fun _=>true) false fuel t cs.toList=some (x.2,p)
 | [],ps,h,x,hx=>by cases hx
 |(n,d)::r,ps,h,x,hx=>by
  obtain⟨g,t,cs,fuel,p,q,h1,h2,h3,h4,h5,h6⟩:=h;rcases aR.1 hx with rfl|hx
  ·exact⟨g,t,cs,fuel,p,h1,h2,h3,h4⟩
  ·exact rY h5 x hx
theorem NT {α β:Type}{f:α->Option β}:∀{l:List α}{xs:List β},l.mapM f=some xs->∀(i:Nat) a,l[i]?=some a->∃x,f a=some x/\xs[i]?=some x
 | [],xs,h,i,a,hi=>by cases i<;>cases hi
 |b::l,xs,h,i,a,hi=>by
  rw[List.mapM_cons]at h;cases hb:f b with
  |none=>rw[hb]at h;cases h
  |some y=>
   rw[hb]at h;cases hr:l.mapM f with
   |none=>rw[hr]at h;cases h
   |some ys=>
    rw[hr]at h;have h:some (y::ys)=some xs:=h;cases h;cases i with
    |zero=>
     have :b=a:=by simpa using hi
     subst this;exact⟨y,hb,rfl⟩
    |succ i=>exact NT hr i a (by simpa using hi)
theorem Ay {P:aD}{w:ay}{fuel n:Nat}{t e:aM}{cs:List ae}{L:List (DataW Unit)}{p:List MemPlace}(ht:P.underlying t=some (.array n e))(he:P.underlying e=some .string)(hc:P.cellsOf e=1)
  (h:DataW.trod (fun _=>()) P w 0 (fun _=>true) false fuel t cs=some (.agg L,p)):cs.length=P.cellsOf t/\∀i,i<n->∃s:ByteArray,cs[i]?=some (.string s)/\L[i]?=some (.lit (.string s.data.toList)):=by
 cases fuel with
 |zero=>simp[DataW.trod]at h
 |succ fuel=>
  unfold DataW.trod at h;rw[ht]at h;simp only[]at h
  split at h
  ·rename_i hlen;refine⟨hlen,fun i hi=>?_⟩;obtain⟨xs,tR,h2⟩:=aB.1 h;simp only[au,DataW.agg.injEq]at h2;obtain⟨x,hx,gm⟩:=NT tR i i (by rw[List.getElem?_range hi]);have hL:L[i]?=some x.1:=by rw[<-h2.1,List.getElem?_map,gm];rfl
   rw[hc,Nat.mul_one]at hx;cases ik:cs[i]? with
   |none=>
    exfalso
    have hd:(cs.drop i).take 1=[]:=by
     rw[List.drop_eq_nil_of_le (List.getElem?_eq_none_iff.1 ik)];rfl
    rw[hd]at hx;cases fuel with
    |zero=>simp[DataW.trod]at hx
    |succ fuel=>simp[DataW.trod,he]at hx
   |some c=>
    have hd:(cs.drop i).take 1=[c]:=by
     obtain⟨cA,hv⟩:=List.getElem?_eq_some_iff.1 ik;rw[List.drop_eq_getElem_cons cA,hv];rfl
    rw[hd]at hx;cases fuel with
    |zero=>simp[DataW.trod]at hx
    |succ fuel=>
     unfold DataW.trod at hx;rw[he]at hx;cases c with
     |string s=>
      simp only[]at hx
      split at hx
      ·simp only[ah]at hx;exact⟨s,rfl,by rw[hL,<-hx]⟩
      ·cases hx
     |_=>simp at hx
  ·cases h
theorem Dy {W:ay}(h:laidMetH ab Rows.logicRow.laid W):∃C ty fr,W.heap[0]?=some (.cells C ty fr)/\de.length<=C.size/\∀(o:Nat) v,de[o]?=some (some v)->C[o]?=some v:=by
 have hf:(Rows.logicRow.laid.filter fun x=>x.2.handleName?.isSome)=[]:=bG;unfold laidMetH at h;rw[hf]at h;obtain⟨ps,hv,_⟩:=h;obtain⟨g,t,cs,fuel,p,h1,h2,h3,h4⟩:=rY hv ("lineage/words.spellings",Rows.laid_lineage_words_spellings) (by
  show _∈[_,_,_,_,_,_,_,_,_,_,_]
  simp)
 have e1:ab.globalNamed "lineage/words.spellings"=some 0:=bG;have h1:ab.globalNamed "lineage/words.spellings"=some g:=h1;rw[e1]at h1;cases h1;have e2:(ab.globals[0]?).map (·.type)=some 236:=bG;rw[e2]at h2;cases h2;have h4:DataW.trod (fun _=>()) ab W 0 (fun _=>true) false fuel 236 cs.toList=some (Rows.laid_lineage_words_spellings,p):=h4;have hL:∃L,Rows.laid_lineage_words_spellings (H:=Unit)= .agg L:=⟨_,rfl⟩;obtain⟨L,hL⟩:=hL;rw[hL]at h4;obtain⟨k1,k2⟩:=Ay (n:=47) (e:=9) bG bG bG h4;have e3:ab.cellsOf 236=47:=bG;have e4:de.length=47:=bG;rw[e3]at k1;have h3:W.var? ab "lineage/words.spellings"=some cs:=h3;unfold ay.var? at h3;rw[e1]at h3;simp only[aX]at h3
 split at h3
 ·rename_i C ty fr hC;cases h3;refine⟨cs,ty,fr,hC,by rw[e4];simp at k1;omega,fun o v ho=>?_⟩;have pZ:o<47:=by
   rw[<-e4];exact(List.getElem?_eq_some_iff.1 ho).1
  obtain⟨s,s1,s2⟩:=k2 o pZ;have e5:de=L.map fun d=>match d with | .lit (.string s)=>some (.string ⟨s.toArray⟩)|_=>none:=by
   unfold de;rw[hL];rfl
  rw[e5,List.getElem?_map,s2]at ho;simp only[cT,ah,Array.toArray_toList]at ho;rw[Array.getElem?_toList]at s1;rw[s1,<-ho]
 ·cases h3
theorem F6 {W:ay}(h:laidMetH ab Rows.logicRow.laid W):12<=W.heap.size:=by
 have hf:(Rows.logicRow.laid.filter fun x=>x.2.handleName?.isSome)=[]:=bG;unfold laidMetH at h;rw[hf]at h;obtain⟨ps,hv,_⟩:=h;obtain⟨g,t,cs,fuel,p,h1,h2,h3,h4⟩:=rY hv ("math/bits.deBruijn64tab",Rows.laid_math_bits_deBruijn64tab) (by
  show _∈[_,_,_,_,_,_,_,_,_,_,_]
  simp)
 have e1:ab.globalNamed "math/bits.deBruijn64tab"=some 11:=bG;have h3:W.var? ab "math/bits.deBruijn64tab"=some cs:=h3;unfold ay.var? at h3;rw[e1]at h3;simp only[aX]at h3
 split at h3
 ·rename_i C ty fr hC;have :=(Array.getElem?_eq_some_iff.1 hC).1;omega
 ·cases h3
end Go.AM
namespace Go.AM
set_option maxRecDepth 1000000
open Go Go.Conc Go.ConcM Go.Proofs Go.Proofs.YtgfppohfgconeaaGreatDoor Go.ChangeShapes
theorem KC {n:Int}(h:(Lit.int .i64 n).wf=true):LV n:=by
 have h:(decide (bX.i64.min<=n)&&decide (n<=bX.i64.max))=true:=h;rw[ag]at h;have h1:=of_decide_eq_true h.1;have h2:=of_decide_eq_true h.2;have e1:bX.i64.min= -9223372036854775808:=gC;have e2:bX.i64.max=9223372036854775807:=gC;rw[e1]at h1;rw[e2]at h2;exact⟨h1,aj⟩
end Go.AM
namespace Go.AM
set_option maxRecDepth 1000000
open Go Go.Conc Go.ConcM Go.Proofs Go.Proofs.YtgfppohfgconeaaGreatDoor Go.ChangeShapes
theorem adK:Calm kz:=⟨zd,rfl,rfl,rfl,rfl⟩
theorem ak9:Gl kz:=by
 have k0:kz.blk 0={kind:=1,cs:=de}:=by rw[fP,bK rfl]
 refine⟨⟨by show 0<12;decide,by rw[k0],by rw[k0],by rw[k0];kernel_rfl,rfl⟩,by show 0<12;decide,by show 0<12;decide,ai _,ai _,fun b hb=>?_⟩;rw[fP]
 split
 ·exact ai _
 ·exact Nat.zero_le _
theorem CC (n:Nat):1<=(g8 n).length:=List.length_pos_iff.2 (Hd n)
theorem Fq:∀(m n:Nat),n<=m->(g8 n).length<=(g8 m).length:=by
 intro m
 induction m using Nat.strongRecOn with
 |ind m ih=>
  intro n h
  by_cases hn:n<10
  ·rw[qB hn];exact CC m
  ·rw[qC hn,qC (n:=m) aj,List.length_append,List.length_append];have :=ih (m / 10) aj (n / 10) aj;simp only[List.length_singleton];omega
theorem Zu (al:Bool)(x y z:Int):∃(C:bJ) (rt:mj),WX C rt (cDC al x y z)/\rt.args=[.string (HZ al x y z)]/\rt.v= .tuple #[.iface 108 (cDC al x y z).sv,vI 0,vI 0]/\(∀x∈rt.L,12<=x.1/\x.1<rt.nx)/\I5 12 rt.L=true/\rt.L=(cDC al x y z).A:=by
 obtain⟨ha,hd,hn,he,E4⟩:=aah x y z;have akO:g8 (dC y)=[UInt8.ofNat (48+dC y)]:=qB aj;have l4:=fun{n:Nat} (h:n<10^(3+1))=>xR 3 n h
 have a4:=l4 (n:=(aC x).natAbs) (by show _<10000;omega);have e4:=l4 (n:=(eC x y z).natAbs) (by show _<10000;omega);have L:LF al (F8 (aC x)) (F8 (eC x y z)) (g8 (aC x).natAbs).length (g8 (eC x y z).natAbs).length:=acD ⟨CC _,a4⟩ ⟨CC _,e4⟩ (fun h=>by
  have h:=of_decide_eq_false h;exact⟨qV aj,xR 2 _ (by show _<1000;omega),Fq _ _ aj⟩) fun h=>by
   have h:=of_decide_eq_true h;exact Fq _ _ aj
 obtain⟨N,hw⟩:=Ru (c:=UInt8.ofNat (48+dC y)) L (OK _) (Wl aj) (OK _) (Hd _) (Hd _) (by rw[rE];omega) (by rw[rE];omega) aj aj;rw[<-akO,rE,rE,rE]at hw;have hT:(HZ al x y z).size<=4000:=by
  show(Q1 al (F8 (aC x)) (F8 (eC x y z)) (g8 (aC x).natAbs) (g8 (dC y)) (g8 (eC x y z).natAbs)).toArray.size<=4000
  have lu:(tu al).length<=9:=by cases al<;>decide
  have ho:∀b,(opt b [(45:UInt8)]).length<=1:=fun b=>by cases b<;>decide
  have o1:=ho (F8 (aC x));have o2:=ho (F8 (eC x y z));have ld:=pL (n:=dC y) aj;rw[List.size_toArray];simp only[Q1,List.length_append,List.length_cons,show wU.length=31 from rfl,show sG.length=12 from rfl,show tA.length=18 from rfl,show tz.length=17 from rfl];omega
 obtain⟨r1,r2⟩:=Sr (al:=al) (sg:=F8 (aC x)) (tg:=F8 (eC x y z)) hT hw (cw:=gJ ab X0 60);exact⟨_,_,⟨xZ jY (lO jY 60) (XD N) 41,r1,rfl,rfl,aaI ..⟩,rfl,rfl,r2,(ZW ..).2.2,rfl⟩
theorem Zv {al:Bool}{x y z:Int}(hx:LV x)(hy:LV y)(hz:LV z):∃(tw:bJ) (h:MR tw) (M:Nat) (m':Mem),(kE ab X0 4).body (WY tw M M) [vI x,vI y,vI z,.bool al] kz=some (.bool true,m')/\m'.deaf=0/\m'.wg=none:=by
 obtain⟨C,rt,h,h1,h2,h3,h4,h5⟩:=Zu al x y z;obtain⟨m',⟨N,e⟩,hc⟩:=c4 (K:=KZt (yx h)) (acF _) (acG h) (h5▸rdc h h1 h2 h3 h4) (fun hG cm M dO=>ckc h hG cm M dO) adK ak9 hx hy hz;have e:=e N (N+1) (ai _) (Nat.le_succ _);exact⟨_,yx h,N,m',(OL (yx h) N N 4 _ kz rfl).symm.trans e,hc.gd.deaf,hc.wg⟩
theorem Zt {al:Bool}{x y z:Int}(hx:LV x)(hy:LV y)(hz:LV z){W:ay}(hL:laidMetH ab Rows.countedRow.laid W)(Fin:ae->ay->Prop)
  (ak4:∀w',bh (ab9 W) W w'->Fin (.bool true) w'):
  ∃M last o w' t',runNT ab (M+1) (solo (G (Frame.enter ab 4 #[.int .i64 x,.int .i64 y,.int .i64 z,.bool al] .normal) []) W) #[]=(.ended o w',t')/\runN ab M (solo (G (Frame.enter ab 4 #[.int .i64 x,.int .i64 y,.int .i64 z,.bool al] .normal) []) W)= .next last/\
   step ab last= .ended o w'/\Conc.Good ab Fin last o w' t':=by
 have hL:laidMetH ab Rows.logicRow.laid W:=hL;obtain⟨C,ty,fr,h0,hC,hv⟩:=Dy hL;have H:=KX (F6 hL) h0 hC hv;obtain⟨tw,htw,M,m',Cp,hd,hw⟩:=Zv (al:=al) hx hy hz;obtain⟨nt,e1⟩:∃nt,nt=Tryz.f4.ntmps:=⟨_,rfl⟩;have e2:nt<=512:=by rw[e1];exact af bG
 have e3:Tryz.f4.body=some (bV 4):=bG;have hs:(comp ab Tryz.f4.ntmps 1000 (bV 4)).isSome=true:=bG;obtain⟨bR,aaz⟩:=iz.1 hs;have qx:Nat.ble Tryz.f4.ntmps 512=true:=bG;have adl:ye ab X0 Tryz.f4.ntmps Tryz.f4.results.toList bR (WY tw M M) [.int .i64 x,.int .i64 y,.int .i64 z,.bool al] kz=some (.bool true,m'):=by
  unfold kE at Cp;rw[Tryz.func4]at Cp;simp only[e3]at Cp;rw[bK qx,aaz]at Cp;exact Cp
 obtain⟨c,hj⟩:=We (Fin:=Fin) jY OC (ah5 htw M M) Tryz.func4 e3 (by rw[<-e1];exact e2) aaz Bg adl hd hw bG;have hJ:=hj #[.int .i64 x,.int .i64 y,.int .i64 z,.bool al] H ⟨(aG rfl).2 rfl,(aG rfl).2 rfl,(aG rfl).2 rfl,(aG rfl).2 rfl,trivial⟩ fun bq v' w' H' Ob=>by
  have e:v'= .bool true:=(aG rfl).1 Ob;subst e;exact ak4 w' H'.rest
 exact Gw hJ H.low rfl
def zl:Array ae:=#[.int .i64 0,.int .i64 0,.int .i64 0,.bool false]
theorem Mx (os:Os):(ay.holding ab os ⟨#[],#[],[]⟩).layFits ab Rows.countedRow.laid []=true:=bG
theorem Hp (os:Os):(ay.holding ab os ⟨#[],#[],[]⟩).layIfaces ab Rows.countedRow.laid (ay.laidAll ab os Rows.countedRow.laid)=true:=bG
theorem JO (os:Os):laidMetH ab Rows.countedRow.laid ((ay.laidAll ab os Rows.countedRow.laid).forCall (fun _ _=>0) ⟨#[],zl,[]⟩).memory:=by
 have hf:(Rows.countedRow.laid.filter fun x=>x.2.handleName?.isSome)=[]:=bG;unfold laidMetH;rw[hf];exact laidMet_laidAll zl (Mx os) (Hp os)
theorem Hn (os:Os):((ay.laidAll ab os Rows.countedRow.laid).forCall (fun _ _=>0) ⟨#[],zl,[]⟩).Shaped Tryz.checked.prog:=ay.shaped_of_ZipB bG bG
theorem JP (os:Os):Input.okWideB Tryz.checked.prog ((ay.laidAll ab os Rows.countedRow.laid).forCall (fun _ _=>0) ⟨#[],zl,[]⟩) 4 ⟨#[],zl,[]⟩=true:=bG
section
variable {H:Type}{enc:aM×ae->H}
theorem Mw (os:Os)(started:os.Started)(F:Stop.Interp):
  ReturnsInLeavingWide Rows.countedRow.assume Tryz.checked os 4 .any (Rows.countedRow.pre enc ab Tryz.f4 (OpenSpec.ofChange Rows.countedSpec))
   ((OpenSpec.ofChange Rows.countedSpec).postWith enc ab Tryz.f4 F (outsideKept [.timePasses]) Rows.countedRow.apart Rows.countedRow.fresh Rows.countedRow.handsOn):=by
 refine returnsInLeavingWide_of_good bG started ⟨ay.laidAll ab os Rows.countedRow.laid,fun _ _=>0,⟨#[],zl,[]⟩,ay.laidAll_os _ _ _,Hn os,(Input.okWide_of_okWideB (base:=0) (JP os)).1,(Input.okWide_of_okWideB (JP os)).2,
  ⟨⟨ChangeSpec.pre_of_preB (fuel:=8) bG,JO os⟩,sizedMet_of_sizedB (fuel:=8) bG⟩,by
  simp only[Assume.holds];exact⟨fun h=>(by cases h),fun _ _ _ _=>rfl,fun h=>(by cases h),fun d h=>(by cases h),fun d h=>(by cases h),fun h=>(by cases h)⟩⟩ ?_
 intro w tape i _ _ _ ep vQ _;obtain⟨_,_,_,fn',akL,_,_,_,_,GR⟩:=ep;have e:fn'=Tryz.f4:=Option.some.inj (akL.symm.trans Tryz.func4);subst e;obtain⟨⟨hp,aax⟩,hz⟩:=vQ;obtain⟨ds,gs,before,hw,hc⟩:=hp;obtain⟨W,hW⟩:∃W,W=w.forCall tape i:=⟨_,rfl⟩;rw[<-hW]at GR hw aax⊢;have DT:=DataW.Whole.of_heap (w':=W) (by rfl) hw;have hL:laidMetH ab Rows.countedRow.laid W:=laidMetH.of_heap (by rfl) aax;have akm:=DT;obtain⟨p,q,hA0,hV0,rfl,hfz,hnd⟩:=akm;have hA:DataW.TrodAll enc ab W 0 (fun _=>true) true Tryz.f4.params.toList i.args.toList ds p:=hA0;have hV:DataW.TrodVars enc ab W (fun _=>true) [] gs q:=hV0;rw[Tryz.params4]at hA GR;obtain⟨v0,v1,v2,v3,d0,d1,d2,d3,p0,p1,p2,p3,ha,rfl,_,t0,t1,t2,t3⟩:=RowKit.trodAll_four hA;rw[ha]at GR;obtain⟨x,rfl,rfl,_,hx⟩:=open_int Tryz.underlying3 (GR 0 3 v0 rfl rfl) t0;obtain⟨y,rfl,rfl,_,hy⟩:=open_int Tryz.underlying3 (GR 1 3 v1 rfl rfl) t1;obtain⟨z,rfl,rfl,_,LW⟩:=open_int Tryz.underlying3 (GR 2 3 v2 rfl rfl) t2;obtain⟨al,rfl,rfl,_⟩:=RowKit.open_bool Tryz.underlying4 (GR 3 4 v3 rfl rfl) t3;obtain⟨rfl,rfl⟩:=trodVars_none hV;obtain⟨N,last,o,w',t',h1,h2,h3,h4⟩:=Zt (al:=al) (KC hx) (KC hy) (KC LW) hL
  (fun v W'=>Rows.countedSpec.post enc ab Tryz.f4 Rows.countedRow.apart Rows.countedRow.fresh Rows.countedRow.handsOn false W #[.int .i64 x,.int .i64 y,.int .i64 z,.bool al] v {W' with os:=W.os}/\OsLater W.os W'.os) fun w' hk=>by
   have g1:DataW.Whole enc ab Tryz.f4.params.toList Rows.countedSpec.vars Rows.countedRow.apart W #[ae.int .i64 x,ae.int .i64 y,ae.int .i64 z,ae.bool al].toList [.lit (.int .i64 x),.lit (.int .i64 y),.lit (.int .i64 z),.lit (.bool al)] [] (p++[]):=by
    rw[ha]at DT;exact DT
   have g3:DataW.TrodAll enc ab {w' with os:=W.os} 0 (fun b=>decide (b<W.heap.size)) true Tryz.f4.params.toList #[ae.int .i64 x,ae.int .i64 y,ae.int .i64 z,ae.bool al].toList [.lit (.int .i64 x),.lit (.int .i64 y),.lit (.int .i64 z),.lit (.bool al)] ([]++([]++([]++[]))):=by
    rw[Tryz.params4];exact RowKit.trodAll_mk4 (shut_int Tryz.underlying3 hx) (shut_int Tryz.underlying3 hy) (shut_int Tryz.underlying3 LW) (RowKit.shut_bool Tryz.underlying4 al)
   have g5:W.keptBut {w' with os:=W.os} (fun q=>q∈p++[]/\(q∈([]:List MemPlace)\/q∈([]++([]++([]++[])):List MemPlace)\/q∈([]:List MemPlace))):=Yy hk _;refine⟨⟨_,_,_,[],_,[],g1,?_,g3,rfl,g5,fun h=>by cases h⟩,by rw[hk.os];exact OsLater.refl _⟩;exact trodAll_mk1 ⟨1,by simp[DataW.trod,ae.cells,Tryz.underlying4]⟩
 obtain⟨v,e,hp,r1,r2,r3,r4⟩:=h4;rw[ha];exact⟨N,last,o,w',t',h1,h2,h3,v,e,postWith_blind (postWith_of_post hp.1 hp.2),r1,r2,r3,r4⟩
end
end Go.AM
