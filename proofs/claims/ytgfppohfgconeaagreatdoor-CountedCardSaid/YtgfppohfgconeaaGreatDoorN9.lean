/-
  What the claim stands on, part 9.
-/
import Derived.Test.YtgfppohfgconeaaGreatDoorN8
set_option linter.unusedVariables false
set_option linter.unusedSimpArgs false
open Go.Proofs.Tryz renaming prog → ab
open Go renaming Value → ae
namespace Go.AM
set_option maxRecDepth 1000000
open Go Go.Conc Go.Proofs
def Zx:T ae->T ae
 | .cond v k=>k false
 |t=>t
def tFs:List Nat:=[22,29,30,31,51,52,83,88,89,90,91,124,125,126,127,164,165,166,167,168,227,228,229,262,263,264,276,283,291,298,299]
abbrev Tk:=Int×ByteArray×Int
def k0 (k:Int):Tk:=(k,.empty,0)
def kn (c:UInt8):Tk:=(2,⟨#[c]⟩,0)
def kx (x:Int):Tk:=(3,.empty,x)
def opt {α:Type}(b:Bool)(l:List α):List α:=match b with
 |true=>l
 |false=>[]
def tKs (al sg tg:Bool)(x y w:Int):List Tk:=
 [k0 46,k0 38,kn 114,k0 5,kn 110,k0 6,k0 24,k0 5,k0 39]++(opt sg [k0 18]++(kx x::k0 43::(opt al [k0 22]++([k0 39,kn 110,k0 17,kx y,k0 28,kn 114,k0 45,kn 110,k0 13]++(opt tg [k0 18]++[kx w,k0 6,k0 39,kn 110,k0 28,kn 114,k0 1,k0 1])))))
def mkW (a z:Nat->Nat):Nat->List Tk->List ae
 |_,[]=>[]
 |i,(k,s,n)::l=> .agg #[vI k,vI (a i),vI (z i),.string s,vI n]::mkW a z (i+1) l
abbrev tWs (al sg tg:Bool)(a z:Nat->Nat)(x y w:Int):List ae:=mkW a z 0 (tKs al sg tg x y w)
def n4:Bool->Nat
 |true=>4
 |false=>0
def oN (al sg tg:Bool):Nat:=n4 sg+n4 tg+al.toNat
def tSV (al sg tg:Bool):ae:= .agg #[.bool true,vL (260+oN al sg tg) 0 1 1,vL (306+oN al sg tg) 0 1 1,vL (325+oN al sg tg) 0 1 1,.nilIface,.slice none 0 0]
def acC (x:Int):ae:= .iface 316 (.agg #[vI 1,vI x,.string .empty,.bool false])
def agP (b:Bool)(x:Int):ae:=match b with
 |true=> .iface 310 (.agg #[vI 18,acC x])
 |false=>acC x
def abq:ae:= .iface 320 (.agg #[.string .empty,sB [110]])
def tL (al sg tg:Bool)(x y w:Int):List (Nat×dU):=[bk 52 1 [sB [110]],bk (112+n4 sg) 2 [agP sg x,.string .empty],bk (183+n4 sg+al.toNat) 2 [.iface 304 (.agg #[vI 17,abq,acC y]),.string .empty],bk (202+n4 sg+al.toNat) 3 [sB [114],.string .empty,.nilIface],
 bk (249+oN al sg tg) 4 [.bool al,vL (183+n4 sg+al.toNat) 0 1 1,vL (202+n4 sg+al.toNat) 0 1 1,.iface 304 (.agg #[vI 13,abq,agP tg w])],bk (260+oN al sg tg) 6 [sB [114],vL 52 0 1 1,vL (112+n4 sg) 0 1 1,.slice none 0 0,.nilIface,vL (249+oN al sg tg) 0 1 fp],bk (306+oN al sg tg) 2 [abq,.string .empty],bk (325+oN al sg tg) 3 [sB [114],.string .empty,.nilIface]]
def tNx (al sg tg:Bool):Nat:=346+oN al sg tg
def tV (al sg tg:Bool):ae:= .tuple #[.iface 108 (tSV al sg tg),vI 0,vI 0]
def KO (T:ByteArray)(z:Nat->Nat):Nat->List ae->List (List ae×ae)
 |_,[]=>[]
 |0,w::l=>([.string T,vI 0],w)::KO T z 1 l
 |i+1,w::l=>([.string T,vI (z i)],w)::KO T z (i+2) l
def wV (al sg tg:Bool):Prop:=∀(T:ByteArray) (a z:Nat->Nat) (x y w:Int),(lA (Ey tFs 40) (Zx (xK ab X0 22 [.string T])) kz (tWs al sg tg a z x y w)).map (fun r=>(r.1,LB (0::(tL al sg tg x y w).map (·.1)) (r.2.1,r.2.2.1)))=
 some (KO T z 0 (tWs al sg tg a z x y w),tV al sg tg,(12,12,12),([],[]),true,0,tNx al sg tg,kP {kind:=1,cs:=de}::(tL al sg tg x y w).map fun b=>kP b.2)
theorem R9:wV false false false:=fun T a z x y w=>by kernel_rfl
theorem R8:wV false false true:=fun T a z x y w=>by kernel_rfl
theorem R7:wV false true false:=fun T a z x y w=>by kernel_rfl
theorem R6:wV false true true:=fun T a z x y w=>by kernel_rfl
theorem R5:wV true false false:=fun T a z x y w=>by kernel_rfl
theorem R4:wV true false true:=fun T a z x y w=>by kernel_rfl
theorem R3:wV true true false:=fun T a z x y w=>by kernel_rfl
theorem R2:wV true true true:=fun T a z x y w=>by kernel_rfl
theorem Po (al sg tg:Bool):wV al sg tg:=match al,sg,tg with
 |false,false,false=>R9
 |false,false,true=>R8
 |false,true,false=>R7
 |false,true,true=>R6
 |true,false,false=>R5
 |true,false,true=>R4
 |true,true,false=>R3
 |true,true,true=>R2
end Go.AM
