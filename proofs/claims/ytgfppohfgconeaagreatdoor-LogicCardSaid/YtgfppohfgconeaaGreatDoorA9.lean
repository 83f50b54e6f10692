/-
  'pick' and 'truths' of any number.
-/
import Derived.Test.YtgfppohfgconeaaGreatDoorA8
import Derived.Test.YtgfppohfgconeaaGreatDoorTie
import Derived.Conc.HoldsTime
import Derived.LaidLaws
set_option linter.unusedVariables false
set_option linter.unusedSimpArgs false
set_option maxRecDepth 1000000
namespace Go.AM
open Go Go.Conc Go.Proofs

/-! ### pieces of code -/
noncomputable def codeT (f : Nat) : Code := match (Tryz.prog.funcs[f]?).bind (·.body) with | some c => c | none => .skip
def fstC : Code → Code
  | .seq a _ => a
  | c => c
def sndC : Code → Code
  | .seq _ b => b
  | c => c
def opsC : Code → Array Oper
  | .region _ ops _ => ops
  | _ => #[]
def noF : F := fun _ _ => none
noncomputable def cF (nt : Nat) (c : Code) : F := match comp Tryz.prog nt 900 c with | some f => f | none => noF
noncomputable def oF (nt : Nat) (c : Code) : OpsF := match turnsF Tryz.prog nt (opsC c) ((List.range (opsC c).size).map fun i => (0, i, 0)) with | some o => o | none => fun _ _ _ _ => none
/-- From operation k on. -/
noncomputable def oK (nt : Nat) (c : Code) (k : Nat) : OpsF := match turnsF Tryz.prog nt (opsC c) (((List.range (opsC c).size).drop k).map fun i => (0, i, 0)) with | some o => o | none => fun _ _ _ _ => none
theorem seqF_at {a b : F} {cl : CallT} {st st' : Ss} (h : a cl st = some (.normal, st')) : seqF a b cl st = b cl st' := by
  unfold seqF
  rw [h]
theorem regF_at {o : OpsF} {cl : CallT} {st st' : Ss} (h : o cl st.tm st.mem st.df = some st') : regF o cl st = some (.normal, st') := by
  unfold regF
  rw [h]


/-! ### 'pick' -/
def inI (n : Int) : Prop := -9223372036854775808 ≤ n ∧ n < 9223372036854775808
def inB (n : Int) : Bool := decide (-9223372036854775808 ≤ n) && decide (n < 9223372036854775808)
theorem inB_iff {n : Int} : inB n = true ↔ inI n := by
  unfold inB inI
  rw [Bool.and_eq_true, decide_eq_true_eq, decide_eq_true_eq]
theorem wrap_id {n : Int} (h : inI n) : IntKind.i64.wrap n = n := by
  obtain ⟨h1, h2⟩ := h
  show (if (true && decide (n % (2 ^ 64 : Int) ≥ (2 ^ 63 : Int))) = true then n % (2 ^ 64 : Int) - (2 ^ 64 : Int) else n % (2 ^ 64 : Int)) = n
  simp only [Bool.true_and, decide_eq_true_eq]
  split <;> omega
/-- What is counted: of a number below nought, how far it is from -1. -/
def magn : Int → Nat
  | .ofNat a => a
  | .negSucc a => a
/-- What 'pick' yields of n and 3. -/
def pk (n : Int) : Nat := magn n % 3
theorem pk_range (n : Int) : pk n = 0 ∨ pk n = 1 ∨ pk n = 2 := by unfold pk; omega
theorem magn_lt {n : Int} (h : inI n) : magn n < 9223372036854775808 := by
  obtain ⟨h1, h2⟩ := h
  cases n with
  | ofNat a =>
    show a < _
    have : (Int.ofNat a) = (a : Int) := rfl
    omega
  | negSucc a => show a < _; omega
noncomputable def q0 : Code := fstC (codeT 15)
noncomputable def q1 : Code := fstC (sndC (codeT 15))
noncomputable def q2 : Code := fstC (sndC (sndC (codeT 15)))
noncomputable def q3 : Code := sndC (sndC (sndC (codeT 15)))
def opAt (c : Code) (i : Nat) : Oper := match (opsC c)[i]? with | some o => o | none => { dst := none, op := .move (.const .nilIface), type := 0, pos := "", after := #[], guard := none }
def tq0 (v u : Value) : Tm := match tmOf [v, u] with | some t => t | none => ⟨rows0, rows0, rows0, rows0, rows0, rows0, rows0, rows0⟩
def tqX (v u c b w7 w8 w9 : Value) : Tm := tput 0 c (tput 9 w9 (tput 8 w8 (tput 7 w7 (tput 6 b (tput 5 v (tput 4 (.int .i64 0) (tq0 v u)))))))
def i3 : Value := .int .i64 3
theorem pc_comp : comp Tryz.prog 13 1000 (codeT 15) = some (seqF (cF 13 q0) (seqF (cF 13 q1) (seqF (regF (oF 13 q2)) (cF 13 q3)))) := by kernel_rfl
theorem pc_0 (cl : CallT) (v u : Value) (m : Mem) : cF 13 q0 cl ⟨tq0 v u, m, []⟩ = some (.normal, ⟨tput 4 (.int .i64 0) (tq0 v u), m, []⟩) := by kernel_rfl
theorem pc_1a (cl : CallT) (a : Nat) (m : Mem) : cF 13 q1 cl ⟨tput 4 (.int .i64 0) (tq0 (.int .i64 (.ofNat a)) i3), m, []⟩ = some (.normal, ⟨tqX (.int .i64 (.ofNat a)) i3 (.int .i64 (.ofNat a)) (.bool false) undef undef undef, m, []⟩) := by kernel_rfl
theorem pc_1b (cl : CallT) (a : Nat) (m : Mem) : cF 13 q1 cl ⟨tput 4 (.int .i64 0) (tq0 (.int .i64 (.negSucc a)) i3), m, []⟩ =
    some (.normal, ⟨tqX (.int .i64 (.negSucc a)) i3 (.int .i64 (IntKind.i64.wrap (0 - IntKind.i64.wrap (.negSucc a + 1)))) (.bool true) (.int .i64 (.negSucc a)) (.int .i64 (IntKind.i64.wrap (.negSucc a + 1))) (.int .i64 (IntKind.i64.wrap (0 - IntKind.i64.wrap (.negSucc a + 1)))), m, []⟩) := by kernel_rfl
theorem pc_2 (cl : CallT) (v b w7 w8 w9 : Value) (a : Nat) (m : Mem) : oF 13 q2 cl (tqX v i3 (.int .i64 (.ofNat a)) b w7 w8 w9) m [] =
    divF Tryz.prog (opAt q2 2) Nat.mod (tget 10) (tget 11) cl (tput 11 i3 (tput 10 (.int .i64 (.ofNat a)) (tqX v i3 (.int .i64 (.ofNat a)) b w7 w8 w9))) m []
      fun r m df => oK 13 q2 3 cl (tput 12 r (tput 11 i3 (tput 10 (.int .i64 (.ofNat a)) (tqX v i3 (.int .i64 (.ofNat a)) b w7 w8 w9)))) m df := by kernel_rfl
theorem pc_3 (cl : CallT) (v b w7 w8 w9 c r : Value) (m : Mem) : oK 13 q2 3 cl (tput 12 r (tput 11 i3 (tput 10 c (tqX v i3 c b w7 w8 w9)))) m [] =
    some ⟨tput 4 r (tput 12 r (tput 11 i3 (tput 10 c (tqX v i3 c b w7 w8 w9)))), m, []⟩ := by kernel_rfl
theorem divF_at {o : Oper} {q : Nat → Nat → Nat} {x y : Opd} {cl : CallT} {tm : Tm} {m : Mem} {df : Df} {k : Kv} {i j : Nat} (hx : x tm = .int .i64 (.ofNat i)) (hy : y tm = .int .i64 (.ofNat (j + 1))) (hi : i < 9223372036854775808) :
    divF Tryz.prog o q x y cl tm m df k = k (.int .i64 (.ofNat (q i (j + 1)))) m df := by
  unfold divF
  rw [hx, hy]
  simp only []
  rw [if_pos]
  rw [Bool.and_eq_true]
  exact ⟨rfl, Nat.ble_eq_true_of_le hi⟩
theorem pc_4 (cl : CallT) (st : Ss) : cF 13 q3 cl st = some (.ret, st) := by kernel_rfl
noncomputable def rsT (f : Nat) : List ResultVar := match Tryz.prog.funcs[f]? with | some fn => fn.results.toList | none => []
theorem pc_res (v b w7 w8 w9 c r : Value) (m : Mem) : resultsF Tryz.prog 13 (rsT 15) (tput 4 r (tput 12 r (tput 11 i3 (tput 10 c (tqX v i3 c b w7 w8 w9))))) m = some r := by kernel_rfl
theorem pc_body (cl : CallT) (args : List Value) (m : Mem) : (tabOf Tryz.prog X0 15).body cl args m = bodyF Tryz.prog X0 13 (rsT 15) (seqF (cF 13 q0) (seqF (cF 13 q1) (seqF (regF (oF 13 q2)) (cF 13 q3)))) cl args m := by kernel_rfl
theorem bodyF_at {nt : Nat} {rs : List ResultVar} {b : F} {cl : CallT} {args : List Value} {m m' : Mem} {tm : Tm} {st : Ss} {v : Value} (h1 : (if Nat.ble args.length nt then tmOf args else none) = some tm) (h2 : b cl ⟨tm, m, []⟩ = some (.ret, st)) (h3 : st.df = []) (h4 : st.mem = m') (h5 : resultsF Tryz.prog nt rs st.tm m' = some v) :
    bodyF Tryz.prog X0 nt rs b cl args m = some (v, m') := by
  unfold bodyF
  rw [h1]
  simp only [h2, endsF, h3, defersN, h4, h5]
theorem pick_tail (cl : CallT) (v b w7 w8 w9 : Value) {a : Nat} (ha : a < 9223372036854775808) (m : Mem) :
    seqF (regF (oF 13 q2)) (cF 13 q3) cl ⟨tqX v i3 (.int .i64 (.ofNat a)) b w7 w8 w9, m, []⟩ = some (.ret, ⟨tput 4 (.int .i64 (.ofNat (a % 3))) (tput 12 (.int .i64 (.ofNat (a % 3))) (tput 11 i3 (tput 10 (.int .i64 (.ofNat a)) (tqX v i3 (.int .i64 (.ofNat a)) b w7 w8 w9)))), m, []⟩) := by
  rw [seqF_at (regF_at (st := ⟨_, m, []⟩) (st' := ⟨tput 4 (.int .i64 (.ofNat (a % 3))) (tput 12 (.int .i64 (.ofNat (a % 3))) (tput 11 i3 (tput 10 (.int .i64 (.ofNat a)) (tqX v i3 (.int .i64 (.ofNat a)) b w7 w8 w9)))), m, []⟩) ?_)]
  · exact pc_4 _ _
  · show oF 13 q2 cl _ m [] = _
    rw [pc_2, divF_at (i := a) (j := 2) (by kernel_rfl) (by kernel_rfl) ha]
    exact pc_3 ..
theorem pick_call (cl : CallT) {n : Int} (h : inI n) (m : Mem) : (tabOf Tryz.prog X0 15).body cl [.int .i64 n, .int .i64 3] m = some (.int .i64 (pk n), m) := by
  have hl := magn_lt h
  rw [pc_body]
  cases n with
  | ofNat a =>
    have h2 := (seqF_at (b := seqF (cF 13 q1) (seqF (regF (oF 13 q2)) (cF 13 q3))) (pc_0 cl (.int .i64 (.ofNat a)) i3 m)).trans ((seqF_at (b := seqF (regF (oF 13 q2)) (cF 13 q3)) (pc_1a cl a m)).trans (pick_tail cl (.int .i64 (.ofNat a)) (.bool false) undef undef undef hl m))
    exact bodyF_at (tm := tq0 (.int .i64 (.ofNat a)) i3) rfl h2 rfl rfl (pc_res ..)
  | negSucc a =>
    have hl : a < 9223372036854775808 := hl
    have e1 : (Int.negSucc a + 1 : Int) = -(a : Int) := by omega
    have e2 : IntKind.i64.wrap (0 - IntKind.i64.wrap (.negSucc a + 1)) = Int.ofNat a := by
      rw [e1, wrap_id (n := -(a : Int)) ⟨by omega, by omega⟩, show (0 - -(a : Int)) = (a : Int) by omega, wrap_id ⟨by omega, by omega⟩]
      rfl
    have k1 := pc_1b cl a m
    rw [e2] at k1
    have h2 := (seqF_at (b := seqF (cF 13 q1) (seqF (regF (oF 13 q2)) (cF 13 q3))) (pc_0 cl (.int .i64 (.negSucc a)) i3 m)).trans ((seqF_at (b := seqF (regF (oF 13 q2)) (cF 13 q3)) k1).trans (pick_tail cl (.int .i64 (.negSucc a)) _ _ _ _ hl m))
    exact bodyF_at (tm := tq0 (.int .i64 (.negSucc a)) i3) rfl h2 rfl rfl (pc_res ..)
end Go.AM
/-
  'truths' of any number.
-/
set_option linter.unusedVariables false
set_option linter.unusedSimpArgs false
set_option maxRecDepth 1000000
namespace Go.AM
open Go Go.Conc Go.Proofs

/-- The call of 'pick' alone. -/
def callPk : CallT := fun f args m => if Nat.beq f 15 then (match args with
  | [.int .i64 n, .int .i64 k] => if inB n && decide (k = 3) then some (.int .i64 (pk n), m) else none
  | _ => none) else none
theorem callPk_ok {Fin : Value → World → Prop} : CallOk Tryz.prog X0 true (Jn Fin) Mv callPk := by
  intro f args m v m' hw h
  unfold callPk at h
  split at h
  · rename_i hf
    have hf := Nat.eq_of_beq_eq_true hf
    subst hf
    split at h
    · rename_i n k
      split at h
      · rename_i hk
        rw [Bool.and_eq_true] at hk
        have hi := inB_iff.1 hk.1
        have e3 := of_decide_eq_true hk.2
        subst e3
        simp only [Option.some.injEq, Prod.mk.injEq] at h
        obtain ⟨rfl, rfl⟩ := h
        exact tab_ok judge_jn fine_tryz frel_mv (callW_ok judge_jn fine_tryz frel_mv 5) 15 _ m _ m hw (pick_call _ hi m)
      · cases h
    · cases h
  · cases h
theorem callPk_at {n : Int} (h : inI n) (m : Mem) : callPk 15 [.int .i64 n, i3] m = some (.int .i64 (pk n), m) := by
  show (if (inB n && decide ((3 : Int) = 3)) = true then some (Value.int .i64 (pk n), m) else none) = _
  rw [if_pos (by rw [inB_iff.2 h]; rfl)]

noncomputable def t0 : Code := fstC (codeT 19)
noncomputable def t1 : Code := fstC (sndC (codeT 19))
noncomputable def t2 : Code := fstC (sndC (sndC (codeT 19)))
noncomputable def t3 : Code := sndC (sndC (sndC (codeT 19)))
def truthS : Nat → Value
  | 0 => .string ⟨#[84, 82, 85, 69]⟩
  | 1 => .string ⟨#[70, 65, 76, 83, 69]⟩
  | _ => .string ⟨#[78, 85, 76, 76]⟩
/-- The three truths, as 'truths' lays them. -/
def trB : Blk := { kind := 1, sz := 1, cs := [some (truthS 0), some (truthS 1), some (truthS 2)] }
def trS (N : Nat) : Value := .slice (some ⟨N, 0, none⟩) 3 3
def tt0 (v : Value) : Tm := match tmOf [v] with | some t => t | none => ⟨rows0, rows0, rows0, rows0, rows0, rows0, rows0, rows0⟩
def tt1 (v : Value) : Tm := tput 2 (.string ⟨#[]⟩) (tt0 v)
def tt2 (v : Value) (N : Nat) : Tm := tput 3 (trS N) (tput 4 (trS N) (tt1 v))
def tt3 (v : Value) (N : Nat) : Tm := tput 6 v (tput 5 (trS N) (tt2 v N))
theorem tr_comp : comp Tryz.prog 10 1000 (codeT 19) = some (seqF (cF 10 t0) (seqF (cF 10 t1) (seqF (regF (oF 10 t2)) (cF 10 t3)))) := by kernel_rfl
theorem tr_body (cl : CallT) (args : List Value) (m : Mem) : (tabOf Tryz.prog X0 19).body cl args m = bodyF Tryz.prog X0 10 (rsT 19) (seqF (cF 10 t0) (seqF (cF 10 t1) (seqF (regF (oF 10 t2)) (cF 10 t3)))) cl args m := by kernel_rfl
theorem tr_0 (cl : CallT) (v : Value) (m : Mem) : cF 10 t0 cl ⟨tt0 v, m, []⟩ = some (.normal, ⟨tt1 v, m, []⟩) := by kernel_rfl
theorem tr_1 (cl : CallT) (v : Value) (m : Mem) : cF 10 t1 cl ⟨tt1 v, m, []⟩ = some (.normal, ⟨tt2 v m.next, m.alloc trB, []⟩) := by kernel_rfl
theorem tr_2 (cl : CallT) (v : Value) (N : Nat) (m : Mem) : oF 10 t2 cl (tt2 v N) m [] = match cl 15 [v, i3] m with
  | some (u, m') => oK 10 t2 3 cl (tput 7 u (tt3 v N)) m' []
  | none => none := by kernel_rfl
theorem tr_3 (cl : CallT) (st : Ss) : cF 10 t3 cl st = some (.ret, st) := by kernel_rfl
end Go.AM
/-
  'Logic', piece by piece, up to its loop.
-/
set_option linter.unusedVariables false
set_option linter.unusedSimpArgs false
set_option maxRecDepth 1000000
namespace Go.AM
open Go Go.Conc Go.Proofs

def mK0 : Mem := layM m00 KL 1225
def mK1 : Mem := mK0.alloc trB
def mK2 : Mem := mK1.alloc trB
def mK3 : Mem := mK2.alloc trB
theorem tr_i0 (cl : CallT) (v : Value) (i : Nat) (hi : i = 0 ∨ i = 1 ∨ i = 2) : oK 10 t2 3 cl (tput 7 (.int .i64 i) (tt3 v 1225)) mK1 [] = some ⟨tput 2 (truthS i) (tput 9 (truthS i) (tput 8 (ptrTo 1225 i) (tput 7 (.int .i64 i) (tt3 v 1225)))), mK1, []⟩ := by
  rcases hi with rfl | rfl | rfl <;> kernel_rfl
theorem tr_i1 (cl : CallT) (v : Value) (i : Nat) (hi : i = 0 ∨ i = 1 ∨ i = 2) : oK 10 t2 3 cl (tput 7 (.int .i64 i) (tt3 v 1226)) mK2 [] = some ⟨tput 2 (truthS i) (tput 9 (truthS i) (tput 8 (ptrTo 1226 i) (tput 7 (.int .i64 i) (tt3 v 1226)))), mK2, []⟩ := by
  rcases hi with rfl | rfl | rfl <;> kernel_rfl
theorem tr_i2 (cl : CallT) (v : Value) (i : Nat) (hi : i = 0 ∨ i = 1 ∨ i = 2) : oK 10 t2 3 cl (tput 7 (.int .i64 i) (tt3 v 1227)) mK3 [] = some ⟨tput 2 (truthS i) (tput 9 (truthS i) (tput 8 (ptrTo 1227 i) (tput 7 (.int .i64 i) (tt3 v 1227)))), mK3, []⟩ := by
  rcases hi with rfl | rfl | rfl <;> kernel_rfl
theorem tr_res (v p u s : Value) (N : Nat) (m : Mem) : resultsF Tryz.prog 10 (rsT 19) (tput 2 s (tput 9 s (tput 8 p (tput 7 u (tt3 v N))))) m = some s := by kernel_rfl
/-- The call of 'truths', 'pick' being known. -/
noncomputable def tX : List Value → Mem → Option (Value × Mem) := fun args m => (tabOf Tryz.prog X0 19).body callPk args m
theorem tX_at {n : Int} (h : inI n) {m : Mem}
    (hi : oK 10 t2 3 callPk (tput 7 (.int .i64 (pk n)) (tt3 (.int .i64 n) m.next)) (m.alloc trB) [] = some ⟨tput 2 (truthS (pk n)) (tput 9 (truthS (pk n)) (tput 8 (ptrTo m.next (pk n)) (tput 7 (.int .i64 (pk n)) (tt3 (.int .i64 n) m.next)))), m.alloc trB, []⟩) :
    tX [.int .i64 n] m = some (truthS (pk n), m.alloc trB) := by
  unfold tX
  rw [tr_body]
  have k2 : oF 10 t2 callPk (tt2 (.int .i64 n) m.next) (m.alloc trB) [] = some ⟨tput 2 (truthS (pk n)) (tput 9 (truthS (pk n)) (tput 8 (ptrTo m.next (pk n)) (tput 7 (.int .i64 (pk n)) (tt3 (.int .i64 n) m.next)))), m.alloc trB, []⟩ := by
    rw [tr_2, callPk_at h]
    exact hi
  have h2 := (seqF_at (b := seqF (cF 10 t1) (seqF (regF (oF 10 t2)) (cF 10 t3))) (tr_0 callPk (.int .i64 n) m)).trans ((seqF_at (b := seqF (regF (oF 10 t2)) (cF 10 t3)) (tr_1 callPk (.int .i64 n) m)).trans
    ((seqF_at (b := cF 10 t3) (regF_at (st := ⟨tt2 (.int .i64 n) m.next, m.alloc trB, []⟩) k2)).trans (tr_3 _ _)))
  exact bodyF_at (tm := tt0 (.int .i64 n)) rfl h2 rfl rfl (tr_res ..)

noncomputable def callL (rs : List Row) : CallT := fun f args m => if Nat.beq f 19 then tX args m else twRows (krow :: rs) f args m
theorem callL_ok {Fin : Value → World → Prop} {rs : List Row} (h : ∀ r ∈ krow :: rs, r.fact Ct = true ∧ bodied Tryz.prog r.f = true) : CallOk Tryz.prog X0 true (Jn Fin) Mv (callL rs) := by
  intro f args m v m' hw hc
  unfold callL at hc
  split at hc
  · rename_i hf
    have hf := Nat.eq_of_beq_eq_true hf
    subst hf
    exact tab_ok judge_jn fine_tryz frel_mv callPk_ok 19 args m v m' hw hc
  · exact rows_ok Ct_ok h f args m v m' hw hc

noncomputable def l0 : Code := fstC (codeT 7)
noncomputable def l1 : Code := fstC (sndC (codeT 7))
noncomputable def lN : Code := fstC (sndC (sndC (codeT 7)))
noncomputable def l4 : Code := fstC (sndC (sndC (sndC (codeT 7))))
noncomputable def l5 : Code := fstC (sndC (sndC (sndC (sndC (codeT 7)))))
noncomputable def l6 : Code := fstC (sndC (sndC (sndC (sndC (sndC (codeT 7))))))
noncomputable def lR : Code := sndC (sndC (sndC (sndC (sndC (sndC (codeT 7))))))
def dbV : Value := .pointer (some ⟨13, 0, none⟩)
def tl0 (x y z : Value) : Tm := match tmOf [x, y, z] with | some t => t | none => ⟨rows0, rows0, rows0, rows0, rows0, rows0, rows0, rows0⟩
def tl1 (x y z : Value) : Tm := tput 6 (.bool false) (tl0 x y z)
def tl2 (x y z : Value) : Tm := tput 7 dbV (tput 16 dbV (tl1 x y z))
def tl3 (x y z : Value) : Tm := tput 18 (.bool false) (tput 17 dbV (tl2 x y z))
def tl4 (x y z a : Value) : Tm := tput 8 a (tput 20 a (tput 19 x (tl3 x y z)))
def tl5 (x y z a b : Value) : Tm := tput 9 b (tput 22 b (tput 21 y (tl4 x y z a)))
def tl6 (x y z a b c : Value) : Tm := tput 10 c (tput 24 c (tput 23 z (tl5 x y z a b)))
theorem l_comp : comp Tryz.prog 216 1000 (codeT 7) = some (seqF (cF 216 l0) (seqF (cF 216 l1) (seqF (cF 216 lN) (seqF (regF (oF 216 l4)) (seqF (regF (oF 216 l5)) (seqF (regF (oF 216 l6)) (cF 216 lR))))))) := by kernel_rfl
theorem l_0 (cl : CallT) (x y z : Value) (m : Mem) : cF 216 l0 cl ⟨tl0 x y z, m, []⟩ = some (.normal, ⟨tl1 x y z, m, []⟩) := by kernel_rfl
theorem l_1 (rs : List Row) (x y z : Value) : cF 216 l1 (callL rs) ⟨tl1 x y z, m00, []⟩ = some (.normal, ⟨tl2 x y z, mK0, []⟩) := by kernel_rfl
theorem l_N (cl : CallT) (x y z : Value) (m : Mem) : cF 216 lN cl ⟨tl2 x y z, m, []⟩ = some (.normal, ⟨tl3 x y z, m, []⟩) := by kernel_rfl
theorem l_4 (cl : CallT) (x y z : Value) (m : Mem) : oF 216 l4 cl (tl3 x y z) m [] = match cl 19 [x] m with
  | some (u, m') => some ⟨tl4 x y z u, m', []⟩
  | none => none := by kernel_rfl
theorem l_5 (cl : CallT) (x y z a : Value) (m : Mem) : oF 216 l5 cl (tl4 x y z a) m [] = match cl 19 [y] m with
  | some (u, m') => some ⟨tl5 x y z a u, m', []⟩
  | none => none := by kernel_rfl
theorem l_6 (cl : CallT) (x y z a b : Value) (m : Mem) : oF 216 l6 cl (tl5 x y z a b) m [] = match cl 19 [z] m with
  | some (u, m') => some ⟨tl6 x y z a b u, m', []⟩
  | none => none := by kernel_rfl
end Go.AM
/-
  'Logic' OF ANY THREE NUMBERS, from the world at its start to its end.
-/
set_option linter.unusedVariables false
set_option linter.unusedSimpArgs false
set_option maxRecDepth 1000000
namespace Go.AM
open Go Go.Conc Go.Proofs Go.Proofs.YtgfppohfgconeaaGreatDoor

noncomputable def okEnd (r : Option (Exit × Ss)) : Bool := match r with
  | some (.ret, st) => (match resultsF Tryz.prog 216 (rsT 7) st.tm st.mem with | some (.bool b) => b | _ => false) && st.df.isEmpty && Nat.beq st.mem.deaf 0 && st.mem.wg.isNone
  | _ => false
noncomputable def bL : F := seqF (cF 216 l0) (seqF (cF 216 l1) (seqF (cF 216 lN) (seqF (regF (oF 216 l4)) (seqF (regF (oF 216 l5)) (seqF (regF (oF 216 l6)) (cF 216 lR))))))
/-- What the loop's evaluation is to show. -/
def LoopOk (rs : List Row) : Prop := ∀ i j k : Nat, (i = 0 ∨ i = 1 ∨ i = 2) → (j = 0 ∨ j = 1 ∨ j = 2) → (k = 0 ∨ k = 1 ∨ k = 2) → ∀ x y z : Value, okEnd (cF 216 lR (callL rs) ⟨tl6 x y z (truthS i) (truthS j) (truthS k), mK3, []⟩) = true
theorem logic_abs {rs : List Row} (hR : LoopOk rs) {x y z : Int} (hx : inI x) (hy : inI y) (hz : inI z) :
    ∃ m', bodyF Tryz.prog X0 216 (rsT 7) bL (callL rs) [.int .i64 x, .int .i64 y, .int .i64 z] m00 = some (.bool true, m') ∧ m'.deaf = 0 ∧ m'.wg = none := by
  obtain ⟨X, hX⟩ : ∃ X, X = Value.int .i64 x := ⟨_, rfl⟩
  obtain ⟨Y, hY⟩ : ∃ X, X = Value.int .i64 y := ⟨_, rfl⟩
  obtain ⟨Z, hZ⟩ : ∃ X, X = Value.int .i64 z := ⟨_, rfl⟩
  have c4 : callL rs 19 [X] mK0 = some (truthS (pk x), mK1) := by rw [hX]; exact tX_at hx (tr_i0 callPk _ _ (pk_range x))
  have c5 : callL rs 19 [Y] mK1 = some (truthS (pk y), mK2) := by rw [hY]; exact tX_at hy (tr_i1 callPk _ _ (pk_range y))
  have c6 : callL rs 19 [Z] mK2 = some (truthS (pk z), mK3) := by rw [hZ]; exact tX_at hz (tr_i2 callPk _ _ (pk_range z))
  have k4 : oF 216 l4 (callL rs) (tl3 X Y Z) mK0 [] = some ⟨tl4 X Y Z (truthS (pk x)), mK1, []⟩ := by rw [l_4, c4]
  have k5 : oF 216 l5 (callL rs) (tl4 X Y Z (truthS (pk x))) mK1 [] = some ⟨tl5 X Y Z (truthS (pk x)) (truthS (pk y)), mK2, []⟩ := by rw [l_5, c5]
  have k6 : oF 216 l6 (callL rs) (tl5 X Y Z (truthS (pk x)) (truthS (pk y))) mK2 [] = some ⟨tl6 X Y Z (truthS (pk x)) (truthS (pk y)) (truthS (pk z)), mK3, []⟩ := by rw [l_6, c6]
  have hend := hR (pk x) (pk y) (pk z) (pk_range x) (pk_range y) (pk_range z) X Y Z
  unfold okEnd at hend
  split at hend
  · rename_i st hst
    simp only [Bool.and_eq_true] at hend
    obtain ⟨⟨⟨e1, e2⟩, e3⟩, e4⟩ := hend
    have hb : bL (callL rs) ⟨tl0 X Y Z, m00, []⟩ = some (.ret, st) :=
      (seqF_at (l_0 (callL rs) X Y Z m00)).trans ((seqF_at (l_1 rs X Y Z)).trans ((seqF_at (l_N (callL rs) X Y Z mK0)).trans ((seqF_at (regF_at (st := ⟨tl3 X Y Z, mK0, []⟩) k4)).trans
        ((seqF_at (regF_at (st := ⟨tl4 X Y Z (truthS (pk x)), mK1, []⟩) k5)).trans ((seqF_at (regF_at (st := ⟨tl5 X Y Z (truthS (pk x)) (truthS (pk y)), mK2, []⟩) k6)).trans hst)))))
    split at e1
    · rename_i b hres
      subst e1
      refine ⟨st.mem, ?_, Nat.eq_of_beq_eq_true e3, Option.isNone_iff_eq_none.1 e4⟩
      rw [← hX, ← hY, ← hZ]
      exact bodyF_at (tm := tl0 X Y Z) rfl hb (List.isEmpty_iff.1 e2) rfl hres
    · cases e1
  · cases hend

/-! ### the start -/
def ρ0 : Ren := fun b => if b < 12 then some ⟨b, 0, if b = 0 then spell0.length else 0, 0⟩ else none
/-- All that lies there at the start stands. -/
def oldE (W : World) : Perm := ⟨fun b _ => b < W.heap.size, fun _ _ => False, fun b => b < W.heap.size ∧ W.shape? b = none, 0⟩
theorem start_hold {W : World} (hsz : 12 ≤ W.heap.size) {C : Array Value} {ty : TypeId} {fr : Nat × Nat} (h0 : W.heap[0]? = some (.cells C ty fr)) (hC : spell0.length ≤ C.size) (hv : ∀ (o : Nat) v, spell0[o]? = some (some v) → C[o]? = some v) :
    Hold Tryz.prog (oldE W) W .idle ρ0 m00 W := by
  have dom : ∀ b p, ρ0 b = some p → b < 12 ∧ p = ⟨b, 0, if b = 0 then spell0.length else 0, 0⟩ := fun b p h => by
    unfold ρ0 at h
    split at h
    · rename_i hb; cases h; exact ⟨hb, rfl⟩
    · cases h
  have kind : ∀ b, (m00.blk b).kind ≠ 0 → b = 0 := fun b hb => by
    rw [m00_blk] at hb
    split at hb
    · rename_i h; exact h.symm
    · exact absurd rfl hb
  have k0 : m00.blk 0 = { kind := 1, cs := spell0 } := by rw [m00_blk, if_pos rfl]
  refine ⟨⟨fun b p hp => (dom b p hp).1, fun b p hp hk => ?_, fun b p o v hp hc => ?_, fun b p o hp _ _ hb => ?_, fun b p hp hk _ => ?_, fun b p hp hk _ => ?_, fun b b' p p' hne hp hp' hk hk' _ => absurd ((kind b hk).trans (kind b' hk').symm) hne,
    fun b p hp => ?_, fun b p hp hk hpos => ?_⟩, Keeps.refl _ _, ⟨fun b o he => ⟨he, ?_⟩, fun b he => ⟨he.1, ?_, he.2⟩, fun _ _ h => h.elim⟩, fun g hg => ?_, ⟨rfl, rfl, Nat.le_refl _⟩, wf_m00, fun b p x hp hb => ?_, fun _ _ h => h.elim⟩
  · have := kind b (by rw [hk]; simp)
    subst this
    obtain ⟨_, rfl⟩ := dom _ _ hp
    refine ⟨by rw [k0], by rw [k0]; exact Nat.le_refl _, ty, C.size, ?_, ?_⟩
    · unfold World.shape?; rw [h0]
    · show 0 + (if 0 = 0 then spell0.length else 0) ≤ C.size
      rw [if_pos rfl]; omega
  · obtain ⟨c1, c2, c3⟩ := cell_some hc
    have := kind b (by rw [c1]; simp)
    subst this
    obtain ⟨_, rfl⟩ := dom _ _ hp
    rw [k0] at c3
    have hall : (spell0.all fun x => match x with | some y => plain1 y | none => false) = true := by kernel_rfl
    have hpl : plain1 v = true := List.all_eq_true.1 hall _ (List.mem_of_getElem? c3)
    refine ⟨v, ?_, (vrel_same hpl).2 rfl⟩
    have e : W.cell? ⟨0, 0 + o, none⟩ = C[0 + o]? := by unfold World.cell?; simp [h0]
    show W.cell? ⟨0, 0 + o, none⟩ = some v
    rw [e, Nat.zero_add]
    exact hv o v c3
  · have hb : 12 ≤ b := hb
    have := (dom b p hp).1
    omega
  · have := kind b (by rw [hk]; simp)
    subst this
    rw [k0] at hk; cases hk
  · have := kind b (by rw [hk]; simp)
    subst this
    rw [k0] at hk; cases hk
  · obtain ⟨h1, rfl⟩ := dom b p hp
    show b < W.heap.size
    omega
  · have := kind b (by rw [hk]; simp)
    subst this
    rw [k0] at hpos; cases hpos
  · rintro ⟨b', p, h1, _, _, _, _, h5⟩
    have := (dom b' p h1).1
    rcases h5 with h5 | h5
    · have h5 : 12 ≤ b' := h5
      omega
    · cases h5
  · rintro ⟨b', p, h1, _, h3, _⟩
    have := kind b' (by omega)
    subst this
    rw [k0] at h3
    rcases h3 with h3 | h3 <;> cases h3
  · rw [globals_size] at hg
    exact ⟨⟨g, 0, if g = 0 then spell0.length else 0, 0⟩, by unfold ρ0; rw [if_pos hg], rfl, rfl⟩
  · have hb : 12 ≤ b := hb
    have := (dom b p hp).1
    omega
/-- What stands: all but what is new. -/
theorem kept_of {W w' : World} (k : Keeps (oldE W) W w') (may : MemPlace → Prop) : W.keptBut { w' with os := W.os } may := by
  refine ⟨rfl, k.output, fun i hi => ?_⟩
  have hs := k.shape i hi
  have hf := k.froz i 0 hi
  have hc : ∀ o, w'.cell? ⟨i, o, none⟩ = W.cell? ⟨i, o, none⟩ := fun o => k.cell i o hi
  have ho : W.shape? i = none → w'.heap[i]? = W.heap[i]? := fun h => k.obj i ⟨hi, h⟩
  show match W.heap[i]?, w'.heap[i]? with
    | some (.cells c t fr), some (.cells c' t' fr') => t' = t ∧ fr' = fr ∧ c'.size = c.size ∧ ∀ j : Nat, ¬ may (.cell i j) → c'[j]? = c[j]?
    | some (.map es clock), some (.map es' clock') => may (.map i) ∨ (es' = es ∧ clock' = clock)
    | o, o' => o' = o
  unfold World.shape? at hs ho
  unfold frz at hf
  unfold World.cell? at hc
  simp only at hs hf hc ho
  cases hW : W.heap[i]? with
  | none =>
    rw [hW] at ho
    rw [ho rfl]
  | some o =>
    cases o with
    | cells c t fr =>
      rw [hW] at hs hf hc
      cases hw : w'.heap[i]? with
      | none => rw [hw] at hs; cases hs
      | some o' =>
        cases o' with
        | cells c' t' fr' =>
          rw [hw] at hs hf hc
          simp only [Option.some.injEq, Prod.mk.injEq] at hs hf
          refine ⟨hs.1, hf, hs.2, fun j _ => ?_⟩
          have := hc j
          simpa using this
        | _ => rw [hw] at hs; cases hs
    | map es clock =>
      rw [hW] at ho
      rw [ho rfl]
      exact .inr ⟨rfl, rfl⟩
    | _ => rw [hW] at ho; rw [ho rfl]
end Go.AM
