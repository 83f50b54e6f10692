/-
  What the claim stands on, part 16.
-/
import Derived.Test.YtgfppohfgconeaaGreatDoorH12
import Derived.Test.YtgfppohfgconeaaGreatDoorH13
import Derived.Test.YtgfppohfgconeaaGreatDoorH14
import Derived.Test.YtgfppohfgconeaaGreatDoorH15
set_option linter.unusedVariables false
set_option linter.unusedSimpArgs false
open Go.Proofs.Tryz renaming prog → ab
open Go renaming Value → ae, World → ao, TypeId → aO
open Nat renaming le_of_ble_eq_true → af, le_refl → aj
open Bool renaming and_eq_true → ag
open List renaming all_eq_true → aB, mem_cons → aL
open Option renaming isSome_iff_exists → qU
namespace Go.AM
set_option maxRecDepth 1000000
open Go Go.Conc Go.Proofs
def NZ (x:List UInt8):List (List UInt8)->Bool
 | []=>true
 |y::l=>!kI x y&&NZ x l
def GC:List (List UInt8)->Bool
 | []=>true
 |x::l=>NZ x l&&GC l
theorem yd:∀l:List UInt8,kI l l=true
 | []=>rfl
 |a::l=>by unfold kI;rw[Nat.beq_refl,yd l];rfl
theorem Cb {x:List UInt8}:∀{l:List (List UInt8)},NZ x l=true->x∉l
 | [],_,h=>by cases h
 |y::l,h,hx=>by
  unfold NZ at h;rw[ag]at h;rcases aL.1 hx with rfl|hx
  ·rw[yd]at h;cases h.1
  ·exact Cb h.2 hx
theorem EX {α:Type}{f:α->List UInt8}:∀{l:List α},GC (l.map f)=true->∀{x y:α},x∈l->y∈l->f x=f y->x=y
 | [],_,_,_,h,_,_=>by cases h
 |z::l,h,x,y,hx,hy,e=>by
  rw[List.map_cons]at h;unfold GC at h;rw[ag]at h;rcases aL.1 hx with rfl|h1<;>rcases aL.1 hy with rfl|h2
  ·rfl
  ·exact(Cb h.1 (List.mem_map.2 ⟨y,h2,e.symm⟩)).elim
  ·exact(Cb h.1 (List.mem_map.2 ⟨x,h1,e⟩)).elim
  ·exact EX h.2 h1 h2 e
def vE:List iE:=[PD,Wu,Wt,Ws,Wr]++(List.range 144).map fun k=>Gk (k / 12) (k%12)
def RSB (r:iE):Prop:=r=BS\/r∈vE
def iE.text(r:iE):List UInt8:=match r.args with | [.string T]=>T.data.toList|_=>[]
theorem Iy:GC (vE.map iE.text)=true:=aU
theorem PC {a b:Nat}(ha:a<12)(hb:b<12):(Gk a b).fact=true:=by
 have h:qj a=true:=by
  obtain rfl|rfl|rfl|rfl|rfl|rfl|rfl|rfl|rfl|rfl|rfl|rfl:a=0\/a=1\/a=2\/a=3\/a=4\/a=5\/a=6\/a=7\/a=8\/a=9\/a=10\/a=11:=ai
  ·exact aaP
  ·exact aaO
  ·exact aaN
  ·exact aaM
  ·exact aaL
  ·exact aaK
  ·exact aaJ
  ·exact aaI
  ·exact aaH
  ·exact aaG
  ·exact Wp
  ·exact Wo
 unfold qj at h;exact aB.1 h b (List.mem_range.2 hb)
theorem tG {r:iE}(h:r∈vE):r.fact=true/\r.f=22/\r.mi=s8/\∃T,r.args=[.string T]:=by
 rcases List.mem_append.1 h with h|h
 ·have hf:=PB;simp only[ag]at hf;obtain⟨⟨⟨⟨f0,f1⟩,f2⟩,f3⟩,f4⟩:=hf;simp only[aL,List.not_mem_nil,or_false]at h;rcases h with rfl|rfl|rfl|rfl|rfl
  ·exact⟨f0,rfl,rfl,_,rfl⟩
  ·exact⟨f1,rfl,rfl,_,rfl⟩
  ·exact⟨f2,rfl,rfl,_,rfl⟩
  ·exact⟨f3,rfl,rfl,_,rfl⟩
  ·exact⟨f4,rfl,rfl,_,rfl⟩
 ·obtain⟨k,hk,rfl⟩:=List.mem_map.1 h;have hk:=List.mem_range.1 hk;exact⟨PC ai (Nat.mod_lt _ eS),rfl,rfl,_,rfl⟩
theorem Z':dY ab 22=true:=aU
theorem aaE (r:iE)(h:RSB r):Vh Ct r:=by
 rcases h with rfl|h
 ·exact(iE.dR Lu rfl zu.2.2.1).1
 ·obtain⟨h1,h2,h3,_⟩:=tG h;exact(iE.dR h1 h3 (by rw[h2];exact Z')).1
theorem R3 {r:iE}(h:RSB r):r.f=14\/r.f=22:=by
 rcases h with rfl|h
 ·exact .inl rfl
 ·exact .inr (tG h).2.1
noncomputable def RA:cE:=fun f args m=>match twR RSB f args m with |some r=>some r|none=>Vs Yt f args m
theorem aat {Fin:ae->ao->Prop}:fT ab X0 true (Jn Fin) Mv RA:=by
 intro f args m v m' hw ht;unfold RA at ht
 split at ht
 ·rename_i r hr;exact aap (Fin:=Fin) aaf aaE f args m v m' hw (hr.trans ht)
 ·exact aar (Fin:=Fin) aaf aaD f args m v m' hw ht
theorem YN {r:iT}(h:Yt r):r.f=38\/r.f=73\/r.f=75:=by
 rcases h with rfl|⟨d,o,hd,rfl⟩
 ·exact .inl rfl
 ·exact .inr ((MN hd).imp (fun h=>h.1) fun h=>h.1)
theorem ah4 {f:Nat}(h:iK f=false){args:List ae}{m:Mem}:RA f args m=none:=by
 unfold RA;rw[Bw fun r hr e=>?_]
 ·exact H8 fun r hr e=>by rcases YN hr with h'|h'|h'<;>rw[e]at h'<;>subst h'<;>cases h
 ·rcases R3 hr with h'|h'<;>rw[e]at h'<;>subst h'<;>cases h
noncomputable def CB(M n:Nat):cE:=Kc ab X0 (mr ab X0 M) RA n
theorem Hx (M n f:Nat)(args:List ae)(m:Mem):CB M (n+1) f args m=match RA f args m with |some r=>some r|none=>if Nat.beq f 137 then v9 X0 (mr ab X0 M) args m else if Nat.beq f 140 then E8 args m else(jY ab X0 f).body (CB M n) args m:=rfl
theorem OZ (M n f:Nat)(args:List ae)(m:Mem)(h:iK f=false):CB M (n+1) f args m=(jY ab X0 f).body (CB M n) args m:=by
 rw[Hx,ah4 h];unfold iK at h;simp only[Bool.or_eq_false_iff]at h
 show(if Nat.beq f 137 then _ else if Nat.beq f 140 then _ else _)=_
 rw[h.1.1.1.1.1.1,h.1.1.1.1.1.2];rfl
noncomputable def KB:fZ:=⟨CB,OZ⟩
theorem YD {f:Nat}(h1:f=137\/f=140){args:List ae}{m:Mem}:RA f args m=none:=by
 unfold RA;rw[Bw fun r hr e=>?_]
 ·exact H8 fun r hr e=>by have :=YN hr;omega
 ·have :=R3 hr;omega
theorem abL:FL KB:=⟨fun M n args m=>by
 show CB M (n+1) 137 args m=_
 rw[Hx,YD (.inl rfl)];rfl,fun M n args m=>by
 show CB M (n+1) 140 args m=_
 rw[Hx,YD (.inr rfl)];rfl⟩
theorem ah5 {Fin:ae->ao->Prop}(M n:Nat):fT ab X0 true (Jn Fin) Mv (CB M n):=Di oX (rT oX M) aat n
theorem YC {f:Nat}{args:List ae}{m m':Mem}{v:ae}(h:RA f args m=some (v,m')):Ev KB f args m v m':=by
 refine⟨1,fun M n _ hn=>?_⟩;obtain⟨n,rfl⟩:∃k,n=k+1:=⟨n-1,ai⟩
 show CB M (n+1) f args m=_
 rw[Hx,h]
theorem Zc {f:Nat}{args:List ae}{m m':Mem}{v:ae}(hf:f=38\/f=73\/f=75)(h:Vs Yt f args m=some (v,m')):Ev KB f args m v m':=by
 refine YC ?_;unfold RA;rw[Bw fun r hr e=>?_]
 ·exact h
 ·have :=R3 hr;omega
theorem Zd {r:iE}{m:Mem}{args:List ae}(hr:RSB r)(hmi:r.mi=s8)(cm:Calm m)(hG:Gl m)(ha:args=r.args.map (bO (uK m) 20))(hu:∀r' rR,RSB r'->r'.at r.f args m rR->r'=r):Ev KB r.f args m (bO (uK m) 20 r.v) (iW (uK m) s8 m r.L r.nx):=by
 have Qk:r.at r.f args m (uK m):=⟨rfl,ha,by rw[hmi];exact agP cm hG⟩;have ht:=aaq hr Qk fun r' rR h1 h2=>by
  have e:=hu r' rR h1 h2;subst e;have h3:=h2.2.2;rw[hmi]at h3;exact⟨rfl,P' h3⟩
 unfold iE.out at ht;rw[hmi]at ht;refine YC ?_;unfold RA;rw[ht]
theorem acL (d:CD)(hd:VO d):Ck KB d:=by
 intro m lo mp pe pg cg rl cm hG X jd hL;obtain⟨π,m',e,k,La,tX⟩:=ahU hd cm hG X jd hL;exact⟨π,m',Zc (.inr ((MN hd).imp (fun h=>h.1) fun h=>h.1)) e,k,La,tX⟩
def TN:Nat->List (Nat×dZ)->Bool
 |_,[]=>true
 |lo,x::l=>Nat.ble lo x.1&&TN (x.1+1) l
theorem Bd:∀{lo:Nat}{L:List (Nat×dZ)},TN lo L=true->(∀x∈L,lo<=x.1)/\(L.map (·.1)).Nodup
 |_,[],_=>⟨fun x hx=>(by cases hx),List.nodup_nil⟩
 |lo,x::l,h=>by
  unfold TN at h;rw[ag]at h;have h1:=af h.1;obtain⟨h2,h3⟩:=Bd h.2;refine⟨fun y hy=>?_,?_⟩
  ·rcases aL.1 hy with rfl|hy
   ·exact h1
   ·have :=h2 y hy;omega
  ·rw[List.map_cons,List.nodup_cons];refine⟨fun hm=>?_,h3⟩;obtain⟨y,hy,e⟩:=List.mem_map.1 hm;have :=h2 y hy;omega
theorem ER {r:iE}(hr:r∈vE){T:ByteArray}{sv:ae}(hT:r.args=[.string T])(hv:r.v= .tuple #[sv,vI 0,vI 0])(hc:TN 12 r.L=true):Rh KB T r.L sv:=by
 intro m cm hG;obtain⟨h1,h2,h3,_⟩:=tG hr;obtain⟨q1,q2⟩:=Bd hc;have eZ:=iE.dR h1 h3 (by rw[h2];exact Z');have e:=Zd (.inr hr) h3 cm hG (args:=[.string T]) (by rw[hT];rfl) fun r' rR JJ h2'=>by
  have e1:=h2'.1;rcases JJ with rfl|JJ
  ·rw[h2]at e1;cases e1
  ·refine EX Iy JJ hr ?_;obtain⟨_,_,_,T',Qm⟩:=tG JJ;have e2:=h2'.2.1;rw[Qm]at e2;have e3:[ae.string T]=[.string T']:=e2;unfold iE.text;rw[hT,Qm];cases e3;rfl
 rw[h2,hv]at e;have hd:nj 19 sv=true:=by
  have :=eZ.1.val;rw[hv]at this;have h:(nj 19 sv&&(nj 19 (vI 0)&&(nj 19 (vI 0)&&true)))=true:=this;rw[ag]at h;exact h.1
 have ev:bO (uK m) 20 (.tuple #[sv,vI 0,vI 0])= .tuple #[bO (uK m) 20 sv,vI 0,vI 0]:=by
  rw[uL hd];rfl
 rw[ev]at e;have cB:∀x∈r.L,12<=x.1/\x.1<r.nx:=eZ.2;refine⟨_,e,TA fun x hx=>(cB x hx).1,fun b sz cs hg=>?_⟩;obtain⟨k,hk,vM,rfl,gT⟩:=Cx hg;obtain⟨nN,nU⟩:=cB _ hk;exact⟨nN,Oe cm q2 hk nN nU (fun x hx=>(cB x hx).1) vM gT⟩
theorem Vl:TN 12 KL=true:=aU
theorem TB:Vk KB:=by
 intro m cm hG;have e:=Zd (r:=BS) (.inl rfl) rfl cm hG (args:=[]) rfl fun r' rR h1 h2=>by
  rcases h1 with rfl|h1
  ·rfl
  ·have :=h2.1;rw[(tG h1).2.1]at this;cases this
 have hk:Kp m (iW (uK m) s8 m BS.L BS.nx) fu:=TA fun x hx=>(Bd Vl).1 x hx
 obtain⟨M,hM⟩:∃M,M=iW (uK m) s8 m BS.L BS.nx:=⟨_,rfl⟩;obtain⟨q1,q2⟩:=Bd Vl;have hn:M.next=m.next+1213:=by rw[hM];rfl
 have VG:m.base<=m.next:=by have :=cm.gd.bf;have :=cm.gd.fn;omega
 rw[<-hM]at e hk;have e':Ev KB 14 [] m (vP (m.next+1) 0) M:=e;have rN:Obj M (m.next+1) 0 [.int .i32 0,.int .u32 0,.map (some m.next)]:=by
  rw[hM];exact Oe (b:=13) (k:={kind:=1,pos:=1,cs:=[some (.int .i32 0),some (.int .u32 0),some (.map (some 12))]}) (cs:=[.int .i32 0,.int .u32 0,.map (some 12)]) cm q2 (.tail _ (.head _)) eS eS q1 rfl rfl
 have eb:M.blk m.next={mH (uK m) {kind:=2,clock:=1,es:=#[⟨.string ⟨#[101]⟩,.pointer (some ⟨129,0,none⟩),0⟩]}with bK:=m.tick}:=by
  have :=Of (m:=m) (nx:=1225) q2 (b:=12) (.head _) q1;rw[hM];exact this
 exact⟨M,m.next+1,m.next,m.next+117,e',hk,⟨rN,by rw[hk.base];omega⟩,⟨ai,by rw[eb];rfl,by rw[eb];rfl,by rw[eb];rfl,by rw[hk.bh,cm.bh];rfl,by rw[hk.home];exact hG.hn,by rw[hk.base];exact VG,ai⟩,ai,ai,ai⟩
theorem ahP:Cr KB:=by
 intro m lo db mp pe cm hG M1 rN tj hhd jd hA;obtain⟨cg,hcg⟩:∃cg,cg=sh lo 93:=⟨_,rfl⟩;have oc:Obj m cg 2 qA:=by rw[hcg];exact(hA 93 2 qA rfl).2
 have Qi:lo<=cg:=by rw[hcg,EM eS];omega
 have lt:=jd.lt;have lo':=jd.lo;obtain⟨l,hl⟩:∃l,l=[(93,cg),(1010,db),(1000,mp),(1001,pe)]:=⟨_,rfl⟩;obtain⟨π,tX⟩:∃π,π=DH 1100 m.next l:=⟨_,rfl⟩;have p1:π 93=cg:=by rw[tX,hl];rfl
 have p2:π 1010=db:=by rw[tX,hl];rfl
 have p3:π 1000=mp:=by rw[tX,hl];rfl
 have p4:π 1001=pe:=by rw[tX,hl];rfl
 have p5:π 1108=m.next+8:=by rw[tX];rfl
 have c:=pB.at;have nmd:mp≠db:=fun e=>by
  have h1:=M1.kind;rw[e,rN.kind]at h1;cases h1
 have hE:Emb m π ql.K:=by
  refine⟨fun x hx=>?_,fun x hx=>?_,fun x hx=>?_,fun x hx y hy e=>?_⟩<;>simp only[ql,aL,List.not_mem_nil,or_false]at hx
  ·rcases hx with rfl|rfl|rfl
   ·show π 93<_;rw[p1];exact oc.lt
   ·show π 1000<_;rw[p3];exact M1.lt
   ·show π 1010<_;rw[p2];exact rN.lt
  ·rcases hx with rfl|rfl|rfl
   ·show _<=π 93/\_<=π 93;rw[p1];omega
   ·show _<=π 1000/\_<=π 1000;rw[p3];exact⟨M1.base,M1.home⟩
   ·show _<=π 1010/\_<=π 1010;rw[p2];exact⟨tj,hhd⟩
  ·rcases hx with rfl|rfl|rfl
   ·show vz π (bk 93 2 qA).2 (m.blk (π 93))
    rw[p1];refine⟨oc.kind,fun _=>⟨oc.sz,?_⟩,fun h=>(by cases h),fun h=>by cases h⟩;rw[oc.cs];rfl
   ·show vz π Ze.2 (m.blk (π 1000))
    rw[p3];refine⟨M1.kind,fun h=>(by cases h),fun _=>⟨?_,M1.clock⟩,fun h=>by cases h⟩;rw[M1.es]
    show _=([⟨sB [101],vP (π 1001) 0,0⟩]:List MapEntry)
    rw[p4]
   ·show vz π (bk 1010 0 [.int .i32 1,.int .u32 0,.map (some 1000)]).2 (m.blk (π 1010))
    rw[p2];refine⟨rN.kind,fun _=>⟨rN.sz,?_⟩,fun h=>(by cases h),fun h=>by cases h⟩;rw[rN.cs]
    show _=([some (.int .i32 1),some (.int .u32 0),some (.map (some (π 1000)))]:List (Option ae))
    rw[p3];rfl
  ·simp only[ql,aL,List.not_mem_nil,or_false]at hy;rcases hx with rfl|rfl|rfl<;>rcases hy with rfl|rfl|rfl
   ·rfl
   ·have e:π 93=π 1000:=e;omega
   ·have e:π 93=π 1010:=e;omega
   ·have e:π 1000=π 93:=e;omega
   ·rfl
   ·have e:π 1000=π 1010:=e;omega
   ·have e:π 1010=π 93:=e;omega
   ·have e:π 1010=π 1000:=e;omega
   ·rfl
 have ml:nI ab.globals.size ql.mi m π:=by
  rw[tX];refine agO cm hG c.k (show 12<=1100 by decide) (fun x hx=>?_) (show Emb m (DH 1100 m.next l) ql.K by rw[<-tX];exact hE);rw[hl]at hx;simp only[aL,List.not_mem_nil,or_false]at hx;rcases hx with rfl|rfl|rfl|rfl
  ·exact oc.lt
  ·exact rN.lt
  ·exact M1.lt
  ·exact M1.pe
 have Qk:ql.at 38 [vP db 0,.agg #[.string bG,vL cg 0 2 cH]] m π:=by
  refine⟨rfl,?_,⟨l,by rw[hl];rfl,tX⟩,ml⟩
  show _=[vP (π 1010) 0,.agg #[.string bG,vL (π 93) 0 2 cH]]
  rw[p1,p2]
 have ht:=Nm (.inl rfl) Qk;obtain⟨m',T6⟩:∃m',m'=ql.out m π:=⟨_,rfl⟩;rw[<-T6]at ht;have HU:m'.next=m.next+9:=by rw[T6];rfl
 have hk:Kp m m' (fun y=>y=mp):=by
  rw[T6];refine⟨Nat.le_add_right _ _,rfl,rfl,rfl,rfl,rfl,rfl,rfl,rfl,fun b hb dQ=>?_⟩;rcases fX (m:=m) (L:=ql.L.map fun x=>(π x.1,mH π x.2)) (nx:=m.next+(1109-1100)) b with⟨e,_⟩|⟨k,hm,_⟩
  ·exact e
  ·obtain⟨x,hx,ex⟩:=List.mem_map.1 hm;simp only[ql,aL,List.not_mem_nil,or_false]at hx;rcases hx with rfl|rfl
   ·have e:π 1000=b:=congrArg Prod.fst ex;exact absurd (e.symm.trans p3) dQ
   ·have e:π 1108=b:=congrArg Prod.fst ex;omega
 have XA:((ql.L.map fun x=>(π x.1,mH π x.2)).map (·.1)).Nodup:=by
  show[π 1000,π 1108].Nodup
  have :=M1.lt;rw[p3,p5,List.nodup_cons];exact⟨fun h=>by have :=List.mem_singleton.1 h;omega,List.nodup_cons.2 ⟨fun h=>(by cases h),List.nodup_nil⟩⟩
 have b1:m'.blk mp={mH π {kind:=2,clock:=2,es:=#[⟨sB [101],vP 1001 0,0⟩,⟨sB [103],vP 1108 0,1⟩]}with bK:=m.tick}:=by
  rw[T6,<-p3];exact rz (x:=(π 1000,mH π {kind:=2,clock:=2,es:=#[⟨sB [101],vP 1001 0,0⟩,⟨sB [103],vP 1108 0,1⟩]})) XA (.head _)
 have b2:m'.blk (m.next+8)={mH π (vk 1108 [vL 93 0 2 cH,.slice none 0 0]).2 with bK:=m.tick}:=by
  rw[T6,<-p5];exact rz (x:=(π 1108,mH π (vk 1108 [vL 93 0 2 cH,.slice none 0 0]).2)) XA (.tail _ (.head _))
 have VG:m.base<=m.next:=by have :=cm.gd.bf;have :=cm.gd.fn;omega
 have hh0:=hG.hn;have hml:=M1.lt;have dB:=M1.pe;have amw:=oc.lt;refine⟨m',m.next+8,by rw[<-hcg];exact Zc (.inl rfl) ht,hk,?_,ai⟩;rw[<-hcg];refine⟨⟨ai,by rw[b1];rfl,?_,by rw[b1];rfl,by rw[hk.bh];exact M1.Bu,by rw[hk.home];exact M1.home⟩,⟨ai,by rw[b2];rfl,by rw[b2];rfl,?_,by rw[hk.bh,cm.bh];rfl⟩,oc.ext hk (show¬cg=mp by omega),.inl rfl,ai,?_⟩
 ·rw[b1]
  show([⟨sB [101],vP (π 1001) 0,0⟩,⟨sB [103],vP (π 1108) 0,1⟩]:List MapEntry)=_
  rw[p4,p5]
 ·rw[b2]
  show([some (vL (π 93) 0 2 cH),some (.slice none 0 0)]:List (Option ae))=_
  rw[p1];rfl
 ·have h1:=M1.base;have h2:=M1.home;rw[hk.base,hk.home];omega
end Go.AM
namespace Go.AM
set_option maxRecDepth 1000000
open Go Go.Conc Go.ConcM Go.Proofs Go.Proofs.YtgfppohfgconeaaGreatDoor Go.ChangeShapes
theorem W8 {a b:Nat}(ha:a<12)(hb:b<12):(Gk a b).args=[.string ⟨(agN a b).toArray⟩]:=by
 have h:((List.range 12).all fun a=>kI (dg a) (nZ a))=true:=aU;have ea:=mP (aB.1 h a (List.mem_range.2 ha));have eb:=mP (aB.1 h b (List.mem_range.2 hb))
 show[ae.string ⟨(_++dg a++[44,32]++dg b++[41]:List UInt8).toArray⟩]=_
 rw[ea,eb];rfl
theorem R5 {a b:Nat}(ha:a<12)(hb:b<12):Gk a b∈vE:=by
 refine List.mem_append.2 (.inr (List.mem_map.2 ⟨a*12+b,List.mem_range.2 ai,?_⟩))
 show Gk ((a*12+b) / 12) ((a*12+b)%12)=_
 rw[show(a*12+b) / 12=a by omega,show(a*12+b)%12=b by omega]
theorem aj1:PD∈vE:= .head _
theorem aj5:Wu∈vE:= .tail _ (.head _)
theorem aj4:Wt∈vE:= .tail _ (.tail _ (.head _))
theorem aj3:Ws∈vE:= .tail _ (.tail _ (.tail _ (.head _)))
theorem aj2:Wr∈vE:= .tail _ (.tail _ (.tail _ (.tail _ (.head _))))
theorem abM:BK KB:=⟨abL,TB,ahP,ER aj1 rfl rfl rfl,fun a b ha hb=>ER (R5 ha hb) (W8 ha hb) rfl rfl,acL,ER aj5 rfl rfl rfl,ER aj4 rfl rfl rfl,ER aj3 rfl rfl rfl,ER aj2 rfl rfl rfl⟩
theorem abA {k:dZ}(hk:k.kind<=1):Gl (Cl k):=by
 refine⟨Ti k,by show 0<13;decide,by show 0<13;decide,aj _,by show 12<=13;decide,fun b hb=>?_⟩;rw[nu]
 split
 ·exact hk
 ·split
  ·exact aj _
  ·exact Nat.zero_le _
theorem ah6 {m0 m':Mem}{args:List ae}{v:ae}{f:Nat}(hs:iK f=false)(h:Ev KB f args m0 v m'):∃M n,(jY ab X0 f).body (CB M n) args m0=some (v,m'):=by
 obtain⟨N,h⟩:=h;have h:=h N (N+1) (aj _) (Nat.le_succ _);exact⟨N,N,(OZ N N f args m0 hs).symm.trans h⟩
theorem Yo {BX:Nat->Prop}{xs:List Int}{xv:ae}{x:Int}{k:dZ}(hk:k.kind<=1)(hx:AU BX xs (Cl k) xv)(ml:∀x∈xs,KD x)(hi:KD x):∃M n m',(jY ab X0 9).body (CB M n) [xv,vI x] (Cl k)=some (.bool true,m')/\m'.deaf=0/\m'.wg=none:=by
 obtain⟨m',h,hc⟩:=c9 (K:=KB) (m:=Cl k) abM (Tj k) (abA hk) hx ml hi;obtain⟨M,n,h⟩:=ah6 rfl h;exact⟨M,n,m',h,hc.gd.deaf,hc.wg⟩
theorem Yn {xs:List Int}{v:ae}{b:Int}{W:ao}(hb:KD b)(hL:laidMetH ab Rows.bagsRow.laid W)(ha:adt W xs v)(Fin:ae->ao->Prop)
  (ale:∀w',bg (WE W) W w'->Fin (.bool true) w'):
  ∃M last o w' t',runNT ab (M+1) (solo (G (Frame.enter ab 9 #[v,.int .i64 b] .normal) []) W) #[]=(.ended o w',t')/\runN ab M (solo (G (Frame.enter ab 9 #[v,.int .i64 b] .normal) []) W)= .next last/\
   step ab last= .ended o w'/\Conc.Good ab Fin last o w' t':=by
 have hL:laidMetH ab Rows.logicRow.laid W:=hL;obtain⟨C,ty,fr,h0,hC,hv⟩:=DV hL;obtain⟨k,ρ,xv,OC,H,DL,Oq,ak5⟩:=Pw (Gc hL) h0 hC hv ha;obtain⟨M,n,m',JE,hd,hw⟩:=Yo OC ak5 ha.1 hb;obtain⟨nt,e1⟩:∃nt,nt=Tryz.f9.ntmps:=⟨_,rfl⟩;have e2:nt<=512:=by rw[e1];exact af aU
 have e3:Tryz.f9.body=some (bN 9):=aU;have hs:(comp ab Tryz.f9.ntmps 1000 (bN 9)).isSome=true:=aU;obtain⟨bR,ZI⟩:=qU.1 hs;have qy:Nat.ble Tryz.f9.ntmps 512=true:=aU;have acs:yr ab X0 Tryz.f9.ntmps Tryz.f9.results.toList bR (CB M n) [xv,.int .i64 b] (Cl k)=some (.bool true,m'):=by
  unfold jY at JE;rw[Tryz.func9]at JE;simp only[e3]at JE;rw[bj qy,ZI]at JE;exact JE
 have Ra:fT ab X0 true (Jn Fin) Mv (CB M n):=ah5 M n;obtain⟨c,hj⟩:=UL (Fin:=Fin) oX OL Ra Tryz.func9 e3 (by rw[<-e1];exact e2) ZI DL acs hd hw aU;have hJ:=hj #[v,.int .i64 b] H ⟨Oq,(aF rfl).2 rfl,trivial⟩ fun bq v' w' H' Q6=>by
  have e:v'= .bool true:=(aF rfl).1 Q6;subst e;exact ale w' H'.rest
 exact GH hJ H.low rfl
section
variable {H:Type}{enc:aO×ae->H}
theorem U7 {W:ao}{rr:Reach}{b0:Nat}{v:ae}{d:DataW H}{p:List MemPlace}(CG:ae.okWide ab W rr b0 22 v)(t:DataW.Trod enc ab W 0 (fun _=>true) true 22 v d p):
  ∃xs,adt W xs v/\∀w':ao,(∀i o,i<W.heap.size->w'.cell? ⟨i,o,none⟩=W.cell? ⟨i,o,none⟩)->∃p',DataW.Trod enc ab w' 0 (fun b=>decide (b<W.heap.size)) true 22 v d p':=by
 have u22:ab.underlying 22=some (.slice 3):=aU;have u3:ab.underlying 3=some (.int .i64):=Tryz.underlying3;have hc3:ab.cellsOf 3=1:=aU;obtain⟨a,len,cap,rfl⟩:=Go.WideShapes.okWide_slice u22 CG;obtain⟨fuel,ht⟩:=t;rcases open_ints u22 u3 hc3 ht with⟨e1,e2⟩|⟨a',agG,gC,zs,e1,_,hl,hm,hz,e2,kY,hw⟩
 ·have e1:[ae.slice a len cap]=[.slice none 0 0]:=e1;cases e1;cases e2;exact⟨[],⟨fun x hx=>(by cases hx),.inl ⟨rfl,rfl⟩⟩,fun w' _=>⟨[],1,by
   show DataW.trod enc ab w' 0 _ true 1 22 [.slice none 0 0]=_
   rw[DataW.trod_step];unfold DataW.trodStep;simp only[u22]⟩⟩
 ·have e1:[ae.slice a len cap]=[.slice (some a') agG gC]:=e1;cases e1;have hz:zs.length=cap:=by simpa using hz
  have Zm:Cell.ok ab W rr b0 22 (.slice (some a') len cap):=by
   simp only[ae.okWide,u22,Cell.okWide]at CG;exact CG
  obtain⟨c,o,sp⟩:=a';have fI:sp=none/\c<W.heap.size:=by
   simp only[Cell.ok,u22]at Zm;obtain⟨_,_,_,h1,row,cells,h2,_⟩:=Zm;refine⟨h1,?_⟩;unfold ao.shape? at h2;rcases Nat.lt_or_ge c W.heap.size with h|h
   ·exact h
   ·simp[h]at h2
  obtain⟨rfl,gT⟩:=fI;have Um:∀i (h:i<zs.length),W.cell? ⟨c,o+i,none⟩=some (vI zs[i]):=fun i h=>by
   have :=kY i h;rw[Go.WideShapes.add_plain]at this;rw[this,List.getD,List.getElem?_eq_getElem h];rfl
  have hlen:(zs.take len).length=len:=by rw[List.length_take];omega
  refine⟨zs.take len,⟨fun x hx=>Rq (hw x (List.mem_of_mem_take hx)),.inr ⟨c,o,cap,by rw[hlen],by rw[hlen];exact hl,?_,gT,fun i hi=>⟨_,Um i ai⟩,fun i hi=>?_⟩⟩,fun w' hk=>?_⟩
  ·have :maxLen<cH:=eS;omega
  ·rw[List.getElem_take];exact Um i (by rw[hlen]at hi;omega)
  ·cases e2;refine⟨_,2,shut_ints' 0 u22 u3 hc3 (Nat.zero_le _) hl hm (by simp[gT,hz]) (fun i hi=>?_) hw⟩;rw[hk _ _ gT];have :=kY i hi;rwa[Go.WideShapes.add_plain]at this
theorem MY (os:Os)(started:os.Started)(F:Stop.Interp)
  (witness:∃(w:ao) (tape:Tape) (i:Input),w.os=os/\(w.forCall tape i).Shaped Tryz.checked.prog/\i.vars=[]/\Input.okWide Tryz.checked.prog (w.forCall tape i) .any w.heap.size 9 i/\
   Rows.bagsRow.pre enc ab Tryz.f9 (OpenSpec.ofChange Rows.bagsSpec) (w.forCall tape i).memory i.args/\Rows.bagsRow.assume.holds Tryz.checked.prog (lone (Frame.enter Tryz.checked.prog 9 i.args .normal) [] (w.forCall tape i))):
  ReturnsInLeavingWide Rows.bagsRow.assume Tryz.checked os 9 .any (Rows.bagsRow.pre enc ab Tryz.f9 (OpenSpec.ofChange Rows.bagsSpec))
   ((OpenSpec.ofChange Rows.bagsSpec).postWith enc ab Tryz.f9 F (outsideKept [.timePasses]) Rows.bagsRow.apart Rows.bagsRow.fresh Rows.bagsRow.handsOn):=by
 refine returnsInLeavingWide_of_good aU started witness ?_;intro w tape i _ _ _ eZ wD _;obtain⟨_,_,_,fn',akP,_,_,_,_,CG⟩:=eZ;have e:fn'=Tryz.f9:=Option.some.inj (akP.symm.trans Tryz.func9);subst e;obtain⟨⟨hp,ZC⟩,hz⟩:=wD;obtain⟨ds,gs,before,hw,hc⟩:=hp;obtain⟨W,hW⟩:∃W,W=w.forCall tape i:=⟨_,rfl⟩;rw[<-hW]at CG hw ZC⊢;have Ei:=DataW.Whole.of_heap (w':=W) (by rfl) hw;have hL:laidMetH ab Rows.bagsRow.laid W:=laidMetH.of_heap (by rfl) ZC;have akm:=Ei;obtain⟨p,q,hA0,hV0,rfl,hfz,XA⟩:=akm;have hA:DataW.TrodAll enc ab W 0 (fun _=>true) true Tryz.f9.params.toList i.args.toList ds p:=hA0;have hV:DataW.TrodVars enc ab W (fun _=>true) [] gs q:=hV0;rw[Tryz.params9]at hA CG;obtain⟨v0,v1,d0,d1,p0,p1,ha,rfl,_,t0,t1⟩:=trodAll_two hA;rw[ha]at CG;obtain⟨xs,ss,Ai⟩:=U7 (CG 0 22 v0 rfl rfl) t0;obtain⟨y,rfl,rfl,_,hy⟩:=open_int Tryz.underlying3 (CG 1 3 v1 rfl rfl) t1;obtain⟨rfl,rfl⟩:=trodVars_none hV;obtain⟨N,last,o,w',t',h1,h2,h3,h4⟩:=Yn (Rq hy) hL ss
  (fun v W'=>Rows.bagsSpec.post enc ab Tryz.f9 Rows.bagsRow.apart Rows.bagsRow.fresh Rows.bagsRow.handsOn false W #[v0,.int .i64 y] v {W' with os:=W.os}/\OsLater W.os W'.os) fun w' hk=>by
   have g1:DataW.Whole enc ab Tryz.f9.params.toList Rows.bagsSpec.vars Rows.bagsRow.apart W #[v0,ae.int .i64 y].toList [d0,.lit (.int .i64 y)] [] (p++[]):=by
    rw[ha]at Ei;exact Ei
   obtain⟨p',dG⟩:=Ai {w' with os:=W.os} (fun i o hi=>hk.cell i o hi);have g3:DataW.TrodAll enc ab {w' with os:=W.os} 0 (fun b=>decide (b<W.heap.size)) true Tryz.f9.params.toList #[v0,ae.int .i64 y].toList [d0,.lit (.int .i64 y)] (p'++[]):=by
    rw[Tryz.params9];exact trodAll_mk2 dG (shut_int Tryz.underlying3 hy)
   have g5:W.keptBut {w' with os:=W.os} (fun q=>q∈p++[]/\(q∈([]:List MemPlace)\/q∈p'++([]:List MemPlace)\/q∈([]:List MemPlace))):=Xj hk _;refine⟨⟨_,_,_,[],_,[],g1,?_,g3,rfl,g5,fun h=>by cases h⟩,by rw[hk.os];exact OsLater.refl _⟩;exact trodAll_mk1 ⟨1,by simp[DataW.trod,ae.cells,Tryz.underlying4]⟩
 obtain⟨v,e,hp,r1,r2,r3,r4⟩:=h4;rw[ha];exact⟨N,last,o,w',t',h1,h2,h3,v,e,postWith_blind (postWith_of_post hp.1 hp.2),r1,r2,r3,r4⟩
end
end Go.AM
