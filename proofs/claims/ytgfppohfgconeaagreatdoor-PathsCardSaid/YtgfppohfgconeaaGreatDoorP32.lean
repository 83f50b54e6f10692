/-
  WHATEVER THE LIST AND THE NUMBERS, 'lineagekeep.Paths' RETURNS true, on every schedule, without a race: the row, and its tied card. Its conditions: the listed package-level variables start as the program's text lays them; the clock's draws are calm.
-/
import Derived.Test.YtgfppohfgconeaaGreatDoorP31
import Derived.SizedLaws
import Derived.SevenTiedAt
set_option linter.unusedVariables false
set_option linter.unusedSimpArgs false
open Bool renaming true → U
open Go renaming Value → ab, World → ar, TypeId → aT
open Go.Proofs.Tryz renaming prog → ae
open Nat renaming le_of_ble_eq_true → af, le_refl → aj
open List renaming all_eq_true → aB
open Option renaming isSome_iff_exists → sH
namespace Go.AM
set_option maxRecDepth 1000000
open Go Go.Conc Go.ConcM Go.Proofs Go.Proofs.YtgfppohfgconeaaGreatDoor Go.ChangeShapes
noncomputable abbrev CP(M n:Nat):cH:=ZE QPs KP M n
theorem R8 {R:List gv}{a b:Nat}(d:a<12)(c:b<12):F7 a b∈Bg R:=by
 refine List.mem_append.2 (.inr (List.mem_map.2 ⟨a*12+b,List.mem_range.2 ai,?_⟩))
 show F7 ((a*12+b) / 12) ((a*12+b)%12)=_
 rw[show(a*12+b) / 12=a by omega,show(a*12+b)%12=b by omega]
theorem aeA {a:Nat}(b:a<12):dg a=iO a:=by
 have h:((List.range 12).all λa=>kL (dg a) (iO a))=U:=aM;exact mz (aB.1 h a (List.mem_range.2 b))
theorem ZY {i j:Nat}(hi:i<12)(a:j<12):(aS i j).args=[.string ⟨(tP i j).toArray⟩]:=by
 show[ab.string ⟨(TW++dg i++Zk++dg j++[41,44,32]++pR).toArray⟩]=_
 rw[aeA hi,aeA a]
 show _=[ab.string ⟨(TW++iO i++Zk++iO j++([41,44,32]++pR)).toArray⟩]
 rw[<-List.append_assoc]
theorem af0 (i j:Nat):Oz 12 (pA i j)=U:=aM
theorem aqJ:GK (KQ rT rS):=⟨agE rT rS,SJ rT rS,ahJ rT rS,IA rT rS (.head _) rfl rfl rfl,λa b d c=>IA rT rS (R8 d c) (acr d c) rfl rfl,λa b=>(Rb rT rS _ (.inl ⟨a,b,rfl⟩)).ck⟩
theorem anc {m0 m':Mem}{args:List ab}{v:ab}{f:Nat}(a:ju f=false)(h:Ev (KQ rT rS) f args m0 v m'):∃M n,(kX ae X0 f).body (CP M n) args m0=some (v,m'):=by
 obtain⟨N,h⟩:=h;have h:=h N (N+1) (aj _) (Nat.le_succ _);exact⟨N,N,(Q7 rT rS N N f args m0 a).symm.trans h⟩
theorem abZ {xs:List Int}{c:ab}{x y:Int}{k:eh}(q:k.kind<=1)(o:uE (λb=>b=12) xs (Ed k) c)(g:∀x∈xs,Eu x)(hi:Eu x)(l:Eu y)(p:xs.length<2^44):∃M n a,(kX ae X0 6).body (CP M n) [c,I x,I y] (Ed k)=some (.bool U,a)/\a.deaf=0/\a.wg=none:=by
 obtain⟨a,h,f⟩:=c6 (K:=KQ rT rS) (m:=Ed k) aqJ (λd r=>Rb rT rS _ (.inr r)) (λi j hi e=>IA rT rS (R2 hi e) (ZY hi e) rfl (af0 i j)) (IA rT rS R3 rfl rfl aM) (WJ k) (ags q) o g hi l p;obtain⟨M,n,h⟩:=anc rfl h;exact⟨M,n,a,h,f.gd.deaf,f.wg⟩
theorem abY {xs:List Int}{v:ab}{b y:Int}{W:ar}(J:Eu b)(x:Eu y)(g:laidMetH ae Rows.pathsRow.laid W)(p:adC W xs v)(D:xs.length<2^44)(Fin:ab->ar->Prop)
  (j:∀a,bC (ab5 W) W a->Fin (.bool U) a):
  ∃M last o a m,runNT ae (M+1) (solo (G (Frame.enter ae 6 #[v,.int .i64 b,.int .i64 y] .normal) []) W) #[]=(.ended o a,m)/\runN ae M (solo (G (Frame.enter ae 6 #[v,.int .i64 b,.int .i64 y] .normal) []) W)=.next last/\
   step ae last=.ended o a/\Conc.Good ae Fin last o a m:=by
 have g:laidMetH ae Rows.logicRow.laid W:=g;obtain⟨C,ty,fr,N,L,A⟩:=FZ g;obtain⟨k,ρ,s,T,H,FP,V,i⟩:=RU (Is g) N L A p;obtain⟨M,n,w,f,F,z⟩:=abZ T i p.1 J x D;obtain⟨h,r⟩:∃h,h=Tryz.f6.ntmps:=⟨_,rfl⟩;have P:h<=512:=by rw[r];exact af aM
 have q:Tryz.f6.body=some (bX 6):=aM;have B:(comp ae Tryz.f6.ntmps 1000 (bX 6)).isSome=U:=aM;obtain⟨Q,d⟩:=sH.1 B;have u:Nat.ble Tryz.f6.ntmps 512=U:=aM;have l:zH ae X0 Tryz.f6.ntmps Tryz.f6.results.toList Q (CP M n) [s,.int .i64 b,.int .i64 y] (Ed k)=some (.bool U,w):=by
  unfold kX at f;rw[Tryz.func6]at f;simp only[q]at f;rw[bh u,d]at f;exact f
 have R:gE ae X0 U (Jn Fin) Mv (CP M n):=anb rT rS M n;obtain⟨c,E⟩:=Yz (Fin:=Fin) qE QX R Tryz.func6 q (by rw[<-r];exact P) d FP l F z aM;have K:=E #[v,.int .i64 b,.int .i64 y] H ⟨V,(aG rfl).2 rfl,(aG rfl).2 rfl,trivial⟩ λbK t a X S=>by
  have e:t=.bool U:=(aG rfl).1 S;subst e;exact j a X.rest
 exact IX K H.low rfl
section
variable {H:Type}{enc:aT×ab->H}
theorem adw {W:ar}{v:ab}{d:DataW H}{p:List MemPlace}{xs:List Int}(t:DataW.Trod enc ae W 0 (λ_=>U) U 22 v d p)(s:adC W xs v){i:List aT}{ds:List (DataW H)}(h:(DataW.weightsEach ae i ds).all (·<=reachBytes)=U)(n:i[0]?=some 22)(q:ds[0]?=some d):xs.length<2^44:=by
 have l:ae.underlying 22=some (.slice 3):=aM;have f:ae.cellsOf 3=1:=aM;have r:ae.bytesOf 3=8:=aM;obtain⟨fuel,e⟩:=t;rcases s.2 with⟨_,rfl⟩|⟨c,o,b,rfl,z,_⟩
 .exact Nat.two_pow_pos 44
 .rcases open_ints l Tryz.underlying3 f e with⟨a,_⟩|⟨x,g,u,m,a,_,B,y,j,w,_⟩
  .have a:[ab.slice (some ⟨c,o,none⟩) xs.length b]=[.slice none 0 0]:=a;cases a
  .have a:[ab.slice (some ⟨c,o,none⟩) xs.length b]=[.slice (some x) g u]:=a;cases a;have j:m.length=b:=by simpa using j
   cases w;have k:=sized_slice h n q l;have A:=reachBytes_lt;rw[r]at k;simp only[lits,List.length_map,List.length_take,List.length_drop]at k;omega
theorem NV (os:Os)(started:os.Started)(F:Stop.Interp)
  (witness:∃(w:ar) (tape:Tape) (i:Input),w.os=os/\(w.forCall tape i).Shaped Tryz.checked.prog/\i.vars=[]/\Input.okWide Tryz.checked.prog (w.forCall tape i) .any w.heap.size 6 i/\
   Rows.pathsRow.pre enc ae Tryz.f6 (OpenSpec.ofChange Rows.pathsSpec) (w.forCall tape i).memory i.args/\Rows.pathsRow.assume.holds Tryz.checked.prog (lone (Frame.enter Tryz.checked.prog 6 i.args .normal) [] (w.forCall tape i))):
  ReturnsInLeavingWide Rows.pathsRow.assume Tryz.checked os 6 .any (Rows.pathsRow.pre enc ae Tryz.f6 (OpenSpec.ofChange Rows.pathsSpec))
   ((OpenSpec.ofChange Rows.pathsSpec).postWith enc ae Tryz.f6 F (outsideKept [.timePasses]) Rows.pathsRow.apart Rows.pathsRow.fresh Rows.pathsRow.handsOn):=by
 refine returnsInLeavingWide_of_good aM started witness ?_;intro w tape i _ _ _ dV H _;obtain⟨_,_,_,n,r,_,_,_,_,a⟩:=dV;have e:n=Tryz.f6:=Option.some.inj (r.symm.trans Tryz.func6);subst e;obtain⟨⟨f,c⟩,X⟩:=H;obtain⟨ds,gs,before,g,hc⟩:=f;have V:=X.weights g;obtain⟨W,hW⟩:∃W,W=w.forCall tape i:=⟨_,rfl⟩;rw[<-hW]at a g c⊢;have t:=DataW.Whole.of_heap (w':=W) (by rfl) g;have hL:laidMetH ae Rows.pathsRow.laid W:=laidMetH.of_heap (by rfl) c;have s:=t;obtain⟨p,q,m,l,rfl,hfz,XK⟩:=s;have C:DataW.TrodAll enc ae W 0 (λ_=>U) U Tryz.f6.params.toList i.args.toList ds p:=m;have hV:DataW.TrodVars enc ae W (λ_=>U) [] gs q:=l;rw[Tryz.params6]at C a;obtain⟨d,K,J,D,d1,d2,p0,p1,p2,k,rfl,_,x,M,L⟩:=trodAll_three C;rw[k]at a;obtain⟨xs,u,BK⟩:=YY (a 0 22 d rfl rfl) x;have hlen:=adw x u V (by rw[Tryz.params6];rfl) rfl;obtain⟨y,rfl,rfl,_,B⟩:=open_int Tryz.underlying3 (a 1 3 K rfl rfl) M;obtain⟨z,rfl,rfl,_,G⟩:=open_int Tryz.underlying3 (a 2 3 J rfl rfl) L;obtain⟨rfl,rfl⟩:=trodVars_none hV;obtain⟨N,last,o,w',P,h1,h2,h3,h4⟩:=abY (Nm B) (Nm G) hL u hlen
  (λv E=>Rows.pathsSpec.post enc ae Tryz.f6 Rows.pathsRow.apart Rows.pathsRow.fresh Rows.pathsRow.handsOn false W #[d,.int .i64 y,.int .i64 z] v {E with os:=W.os}/\OsLater W.os E.os) λw' j=>by
   have g1:DataW.Whole enc ae Tryz.f6.params.toList Rows.pathsSpec.vars Rows.pathsRow.apart W #[d,ab.int .i64 y,ab.int .i64 z].toList [D,.lit (.int .i64 y),.lit (.int .i64 z)] [] (p++[]):=by
    rw[k]at t;exact t
   obtain⟨A,dN⟩:=BK {w' with os:=W.os} (λi o hi=>j.cell i o hi);have g3:DataW.TrodAll enc ae {w' with os:=W.os} 0 (λb=>decide (b<W.heap.size)) U Tryz.f6.params.toList #[d,ab.int .i64 y,ab.int .i64 z].toList [D,.lit (.int .i64 y),.lit (.int .i64 z)] (A++([]++[])):=by
    rw[Tryz.params6];exact trodAll_mk3 dN (shut_int Tryz.underlying3 B) (shut_int Tryz.underlying3 G)
   have g5:W.keptBut {w' with os:=W.os} (λq=>q∈p++[]/\(q∈([]:List MemPlace)\/q∈A++([]++([]:List MemPlace))\/q∈([]:List MemPlace))):=acF j _;refine⟨⟨_,_,_,[],_,[],g1,?_,g3,rfl,g5,λh=>by cases h⟩,by rw[j.os];exact OsLater.refl _⟩;exact trodAll_mk1 ⟨1,by simp[DataW.trod,ab.cells,Tryz.underlying4]⟩
 obtain⟨v,e,f,T,S,R,Q⟩:=h4;rw[k];exact⟨N,last,o,w',P,h1,h2,h3,v,e,postWith_blind (postWith_of_post f.1 f.2),T,S,R,Q⟩
end
end Go.AM
namespace Go.Proofs.YtgfppohfgconeaaGreatDoor
set_option maxRecDepth 1000000
open Go Go.AM
theorem Lj:Rows.PathsSaid:=
 OpenClaim.holds_of_wide_leaving_time 6 Tryz.f6 rfl rfl rfl rfl rfl rfl rfl ⟨rfl,rfl,rfl,rfl,rfl⟩ rfl rfl rfl rfl rfl aM Tryz.func6 I9
  (of_decide_eq_true aM) (by unfold Func.isWrapper;first |(rw[bh (by decide+kernel)];kernel_rfl)|(rw[bH (by decide+kernel)];exact⟨rfl,rfl⟩))
  (λa started H enc _ F=>NV a started F (Lc a))
theorem paths_card_holds:Rows.PathsCardSaid:=by
 have g:Claim7.isSixth {stood:={row:=Rows.pathsRow,standIns:=[],harness:=(U,"35b17491dc82a8a7615720e653dac1e843e8de90c48b8eebe93d6693a71c5f0f"),looks:=U},kinds:=[]}=false:=aM;have d:∀f b,Tryz.pinned.checked.prog.funcNamed Rows.pathsRow.func=some f->Tryz.pinned.checked.prog.funcs[f]?=some b->U=Tryz.pinned.checked.prog.looks []/\∀(j:Nat) t,b.params[j]?=some t->Tryz.pinned.checked.prog.wantsStandIn t=false:=by
  intro f b c m;have l:Tryz.pinned.checked.prog.funcNamed Rows.pathsRow.func=some 6:=aM;rw[l]at c;cases c;have k:b=Tryz.f6:=(Option.some.inj (Tryz.func6.symm.trans m)).symm;subst k;refine⟨aM,λj t a=>?_⟩;rw[Tryz.params6]at a;have i:t=22\/t=3:=by
   rcases j with _|_|_|j
   .exact .inl (by simpa using a.symm)
   .exact .inr (by simpa using a.symm)
   .exact .inr (by simpa using a.symm)
   .simp at a
  rcases i with rfl|rfl
  .exact(show Tryz.pinned.checked.prog.wantsStandIn 22=false by kernel_rfl)
  .exact(show Tryz.pinned.checked.prog.wantsStandIn 3=false by kernel_rfl)
 exact⟨Claim7.tied_new_at .later [.data,.data,.data,.data,.sentinel,.sentinel,.data,.data,.data,.pinned,.pinned] U
   (Claim7.new_of_sixth Lj (U,"35b17491dc82a8a7615720e653dac1e843e8de90c48b8eebe93d6693a71c5f0f") U rfl ⟨rfl,rfl⟩ aM g d) aM,
  λD e=>(by cases e),paths_row_tie,λh=>(by cases h),aM⟩
#print axioms paths_card_holds
end Go.Proofs.YtgfppohfgconeaaGreatDoor
