/-
  A GOROUTINE OF A GROUP, on: behind the add of -1.
-/
import Derived.Test.YtgfppohfgconeaaGreatDoorA6
import Derived.Test.YtgfppohfgconeaaGreatDoorA5
set_option linter.unusedVariables false
set_option linter.unusedSimpArgs false
set_option maxRecDepth 100000
namespace Go.AM
open Go Go.Conc Go.Proofs
open Go.ConcR (stA smA KK rd wr)
/-- What the state may be behind an add of -1 that is not the last one's. -/
def isY (x : Int) : Prop := x = 0 ∨ x = 4294967296 ∨ x = 8589934592 ∨ x = 12884901888 ∨ x = 4294967297 ∨ x = 8589934593 ∨ x = 12884901889
section
variable (Wg b1 b2 : Nat) (clo v : Value) (x : Int)
theorem ch_quit (hx : isY x) : ChainQ Tryz.prog 97 (chA Wg b1 b2 clo v x) ∧ quitsOk 1 (chA Wg b1 b2 clo v x) (gsq Tryz.prog false 97 (chA Wg b1 b2 clo v x)) = true := by
  rcases hx with rfl | rfl | rfl | rfl | rfl | rfl | rfl <;> exact ⟨⟨by kernel_rfl, by kernel_rfl⟩, by kernel_rfl⟩
theorem ch_l1 : Chain Tryz.prog false 103 (chA Wg b1 b2 clo v 1) ∧ isRun (chB1 Wg b1 b2 clo v) = true ∧ AtOp (chB1 Wg b1 b2 clo v) ∧
    (opOf (chB1 Wg b1 b2 clo v)).op = .call { callee := .value (.func 243), args := #[argOf (chB1 Wg b1 b2 clo v) 0], argTypes := tsOf (chB1 Wg b1 b2 clo v) } ∧ (actOf (chB1 Wg b1 b2 clo v)).eval (argOf (chB1 Wg b1 b2 clo v) 0) = .pointer (some ⟨Wg, 0, none⟩) :=
  ⟨⟨by kernel_rfl, by kernel_rfl, by kernel_rfl, by kernel_rfl⟩, by kernel_rfl, ⟨by kernel_rfl, by kernel_rfl, by kernel_rfl, by kernel_rfl⟩, by kernel_rfl, by kernel_rfl⟩
theorem ch_l2 : Chain Tryz.prog false 20 (putG (chB1 Wg b1 b2 clo v) (.int .u64 1)) ∧ isRun (chB2 Wg b1 b2 clo v) = true ∧ AtOp (chB2 Wg b1 b2 clo v) ∧
    (opOf (chB2 Wg b1 b2 clo v)).op = .call { callee := .value (.func 268), args := #[argOf (chB2 Wg b1 b2 clo v) 0, argOf (chB2 Wg b1 b2 clo v) 1], argTypes := tsOf (chB2 Wg b1 b2 clo v) } ∧
    (actOf (chB2 Wg b1 b2 clo v)).eval (argOf (chB2 Wg b1 b2 clo v) 0) = .pointer (some ⟨Wg, 0, none⟩) ∧ (actOf (chB2 Wg b1 b2 clo v)).eval (argOf (chB2 Wg b1 b2 clo v) 1) = .int .u64 0 :=
  ⟨⟨by kernel_rfl, by kernel_rfl, by kernel_rfl, by kernel_rfl⟩, by kernel_rfl, ⟨by kernel_rfl, by kernel_rfl, by kernel_rfl, by kernel_rfl⟩, by kernel_rfl, by kernel_rfl, by kernel_rfl⟩
theorem ch_l3 : Chain Tryz.prog false 27 (putG (chB2 Wg b1 b2 clo v) unitV) ∧ isRun (chB3 Wg b1 b2 clo v) = true ∧ AtOp (chB3 Wg b1 b2 clo v) ∧ mayWake Tryz.prog (chB3 Wg b1 b2 clo v) = true ∧
    (opOf (chB3 Wg b1 b2 clo v)).op = .call { callee := .value (.func 242), args := callAs (chB3 Wg b1 b2 clo v), argTypes := tsOf (chB3 Wg b1 b2 clo v) } ∧ ((callAs (chB3 Wg b1 b2 clo v)).map (actOf (chB3 Wg b1 b2 clo v)).eval)[0]? = some (.pointer (some ⟨Wg, 1, none⟩)) ∧
    ChainQ Tryz.prog 27 (putG (chB3 Wg b1 b2 clo v) unitV) ∧ quitsOk 1 (putG (chB3 Wg b1 b2 clo v) unitV) (gsq Tryz.prog false 27 (putG (chB3 Wg b1 b2 clo v) unitV)) = true :=
  ⟨⟨by kernel_rfl, by kernel_rfl, by kernel_rfl, by kernel_rfl⟩, by kernel_rfl, ⟨by kernel_rfl, by kernel_rfl, by kernel_rfl, by kernel_rfl⟩, by kernel_rfl, by kernel_rfl, by kernel_rfl, ⟨by kernel_rfl, by kernel_rfl⟩, by kernel_rfl⟩
end
end Go.AM
/-
  A GOROUTINE OF A GROUP, judged: behind its release ('JD'); from its start on ('JW'), the function that it calls being right.
-/
set_option linter.unusedVariables false
set_option linter.unusedSimpArgs false
namespace Go.AM
open Go Go.Conc Go.Proofs
open Go.ConcR (stA smA KK rd wr)

theorem quitsD_more {P : Program} : ∀ {n d : Nat} {g : Goroutine}, QuitsD P n d g → QuitsD P (n + 1) d g
  | 0, _, _, h => .inl h
  | n + 1, _, _, h => h.elim .inl fun ⟨h1, g', es, h2, h3, h4⟩ => .inr ⟨h1, g', es, h2, h3, quitsD_more h4⟩
theorem quitsD_le {P : Program} {n m d : Nat} {g : Goroutine} (h : QuitsD P n d g) (hn : n ≤ m) : QuitsD P m d g := by
  induction hn with
  | refl => exact h
  | step _ ih => exact quitsD_more ih
section
variable {Wg b1 b2 : Nat} {clo v : Value}
theorem child_jd : JD Tryz.prog Wg 219 .k1 (putG (ch7 Wg b1 b2 clo v) unitV) := by
  obtain ⟨_, _, _, _, _, a1, a2, a3⟩ := ch_s5 Wg b1 b2 clo v
  obtain ⟨b1', b2', b3, b4, b5, b6⟩ := ch_s9 Wg b1 b2 clo v
  refine chain_jd (k := 216) a1 ?_
  refine ⟨isRun_iff.1 a2, fun w _ => .k1 (congrFun a3 w) ?_⟩
  refine chain_jd (k := 181) b1' ?_
  refine ⟨isRun_iff.1 b2', fun w _ => .d1 fun u wt hwt hu hw => ?_⟩
  have hst := add_at (main := false) tx_add b3 b4 b5 b6 hw
  have hu4 : u < 4 := hu
  have hx : IntKind.u64.wrap (((u : Int) + 1) * KK + wt + 18446744069414584320) = (u : Int) * KK + wt := by
    rcases (show u = 0 ∨ u = 1 ∨ u = 2 ∨ u = 3 by omega) with rfl | rfl | rfl | rfl <;> rcases (show wt = 0 ∨ wt = 1 by omega) with rfl | rfl <;> decide
  rw [hx] at hst
  refine ⟨_, hst, fun hl => ?_, fun hl => ?_⟩
  · obtain ⟨rfl, rfl⟩ := hl
    obtain ⟨c1, c2, c3, c4, c5⟩ := ch_l1 Wg b1 b2 clo v
    obtain ⟨d1, d2, d3, d4, d5, d6⟩ := ch_l2 Wg b1 b2 clo v
    obtain ⟨e1, e2, e3, e4, e5, e6, e7, e8⟩ := ch_l3 Wg b1 b2 clo v
    show JD Tryz.prog Wg 180 .d2 (chA Wg b1 b2 clo v 1)
    refine chain_jd (k := 77) c1 ?_
    refine ⟨isRun_iff.1 c2, fun w _ => .d2 fun hw => ⟨_, load_at tx_load c3 c4 c5 hw, ?_⟩⟩
    refine chain_jd (k := 56) d1 ?_
    refine ⟨isRun_iff.1 d2, fun w _ => .d3 fun hw => ⟨_, store_at tx_store d3 d4 d5 d6 hw, ?_⟩⟩
    refine chain_jd (k := 28) e1 ?_
    exact ⟨isRun_iff.1 e2, fun w _ => .d4 e4 fun hw => ⟨_, give_at tx_give e3 e5 e6 hw, chain_quits e7 e8⟩⟩
  · have hy : isY ((u : Int) * KK + wt) := by
      unfold isY
      rcases (show u = 0 ∨ u = 1 ∨ u = 2 ∨ u = 3 by omega) with rfl | rfl | rfl | rfl <;> rcases (show wt = 0 ∨ wt = 1 by omega) with rfl | rfl
      · left; decide
      · exact absurd ⟨rfl, rfl⟩ hl
      · right; left; decide
      · right; right; right; right; left; decide
      · right; right; left; decide
      · right; right; right; right; right; left; decide
      · right; right; right; left; decide
      · right; right; right; right; right; right; decide
    obtain ⟨c1, c2⟩ := ch_quit Wg b1 b2 clo v _ hy
    exact quitsD_le (m := 180) (chain_quits c1 c2) (by decide)
end
end Go.AM
/-
  (*WaitGroup).Go OF THIS PROGRAM, run by the kernel, but for what it captures.
-/
set_option linter.unusedVariables false
set_option linter.unusedSimpArgs false
set_option maxRecDepth 100000
namespace Go.AM
open Go Go.Conc Go.Proofs
open Go.ConcR (stA smA KK rd wr)
def bxT (g : Goroutine) : TypeId := match (opOf g).op with | .box t _ => t | _ => 0
def bxX (g : Goroutine) : Operand := match (opOf g).op with | .box _ x => x | _ => .const .nilIface
structure BoxAt (g : Goroutine) (u : Value) : Prop where
  at_ : AtOp g
  op : (opOf g).op = .box (bxT g) (bxX g)
  arg : (actOf g).eval (bxX g) = u
def spC (P : Program) (g : Goroutine) : Goroutine := match stepG P true g wZ with | .spawn _ c _ _ => c | _ => g
def spR (P : Program) (g : Goroutine) : Goroutine := match stepG P true g wZ with | .spawn g' _ _ _ => g' | _ => g
section
variable (Wg b1 b2 : Nat) (clo : Value) (c : Frame) (cs : List Frame)
noncomputable def goG : Goroutine := G (Frame.enter Tryz.prog 137 #[ptrW Wg 0, clo] .normal) (c :: cs)
noncomputable def go1 : Goroutine := lastq Tryz.prog true 2 (goG Wg clo c cs)
noncomputable def go2 : Goroutine := putG (go1 Wg clo c cs) (ptrW b1 0)
noncomputable def go3 : Goroutine := putG (go2 Wg b1 clo c cs) (ptrW b2 0)
noncomputable def go4 : Goroutine := lastq Tryz.prog true 3 (go3 Wg b1 b2 clo c cs)
noncomputable def go5 : Goroutine := putG (go4 Wg b1 b2 clo c cs) (ptrW Wg 0)
noncomputable def go6 : Goroutine := G ((go5 Wg b1 b2 clo c cs).frame.finish unitV) (c :: cs)
noncomputable def go7 : Goroutine := lastq Tryz.prog true 3 (go6 Wg b1 b2 clo c cs)
noncomputable def go8 : Goroutine := spR Tryz.prog (go7 Wg b1 b2 clo c cs)
theorem go_s1 : Chain Tryz.prog true 2 (goG Wg clo c cs) ∧ BoxAt (go1 Wg clo c cs) (ptrW Wg 0) ∧ BoxAt (go2 Wg b1 clo c cs) clo ∧ Chain Tryz.prog true 3 (go3 Wg b1 b2 clo c cs) ∧ LoadAt Tryz.prog (go4 Wg b1 b2 clo c cs) b1 ∧
    Chain Tryz.prog true 1 (go5 Wg b1 b2 clo c cs) ∧ lastq Tryz.prog true 1 (go5 Wg b1 b2 clo c cs) = addG Wg (go5 Wg b1 b2 clo c cs).frame (c :: cs) :=
  ⟨⟨by kernel_rfl, by kernel_rfl, by kernel_rfl, by kernel_rfl⟩, ⟨⟨by kernel_rfl, by kernel_rfl, by kernel_rfl, by kernel_rfl⟩, by kernel_rfl, by kernel_rfl⟩, ⟨⟨by kernel_rfl, by kernel_rfl, by kernel_rfl, by kernel_rfl⟩, by kernel_rfl, by kernel_rfl⟩,
    ⟨by kernel_rfl, by kernel_rfl, by kernel_rfl, by kernel_rfl⟩, ⟨⟨by kernel_rfl, by kernel_rfl, by kernel_rfl, by kernel_rfl⟩, by kernel_rfl, by kernel_rfl, by kernel_rfl⟩, ⟨by kernel_rfl, by kernel_rfl, by kernel_rfl, by kernel_rfl⟩, by kernel_rfl⟩
theorem go_s6 : Chain Tryz.prog true 3 (go6 Wg b1 b2 clo c cs) ∧ isRun (go7 Wg b1 b2 clo c cs) = true ∧ ((fun w => stepG Tryz.prog true (go7 Wg b1 b2 clo c cs) w) = fun w => .spawn (go8 Wg b1 b2 clo c cs) (ch0 b1 b2) w #[]) ∧ isRun (ch0 b1 b2) = true ∧
    Chain Tryz.prog true 3 (go8 Wg b1 b2 clo c cs) ∧ lastq Tryz.prog true 3 (go8 Wg b1 b2 clo c cs) = G (c.finish unitV) cs :=
  ⟨⟨by kernel_rfl, by kernel_rfl, by kernel_rfl, by kernel_rfl⟩, by kernel_rfl, by kernel_rfl, by kernel_rfl, ⟨by kernel_rfl, by kernel_rfl, by kernel_rfl, by kernel_rfl⟩, by kernel_rfl⟩
end
end Go.AM
/-
  A GOROUTINE OF A GROUP, judged from its start on: loads, boxes, the function that it calls, its release.
-/
set_option linter.unusedVariables false
set_option linter.unusedSimpArgs false
namespace Go.AM
open Go Go.Conc Go.Proofs
open Go.ConcR (stA smA KK rd wr)

/-- What a worker calls, whoever judges. -/
structure Worker (P : Program) (X : Ext) (cw : CallT) : Prop where
  ok : ∀ {main : Bool} {J : JT}, (∀ σ, Judge P main (J σ)) → CallOk P X main J FrW cw
theorem worker_callW {P : Program} {X : Ext} (hX : Fine P X) (n : Nat) : Worker P X (callW P X n) := ⟨fun hJ => callW_ok hJ hX frel_frw n⟩
theorem Worker.fr {P : Program} {X : Ext} {cw : CallT} (h : Worker P X cw) {f : Nat} {args : List Value} {m m' : Mem} {v : Value} (hw : Wf m) (hc : cw f args m = some (v, m')) : FrW m m' :=
  (h.ok (main := false) (J := fun _ _ _ _ _ => True) (fun _ => ⟨fun _ => trivial, fun _ _ => trivial⟩) f args m v m' hw hc).1
section
variable {P : Program} {main : Bool} {J : Nat → Perm → Goroutine → World → Prop} {E : Perm} {w₀ : World} {σ : GSt} {ρ : Ren} {m : Mem} {w : World} {g : Goroutine}
theorem ren_same {ρ' : Ren} {w' : World} (h : Sim ρ m w) (h' : Sim ρ' m w') (hs : ∀ b, b < m.next → ρ' b = ρ b) : ρ' = ρ := by
  funext b
  by_cases hb : b < m.next
  · exact hs b hb
  · have h1 : ρ b = none := by
      cases e : ρ b with
      | none => rfl
      | some p => exact absurd (h.dom b p e) hb
    have h2 : ρ' b = none := by
      cases e : ρ' b with
      | none => rfl
      | some p => exact absurd (h'.dom b p e) hb
    rw [h1, h2]
theorem load_real (hJ : Judge P main J) {b bA : Nat} {p : Pl} {u : Value} (hg : LoadAt P g b) (H : Hold P E w₀ σ ρ m w) (hp : ρ bA = some p) (hc : p.c = b) (hd : p.d = 0) (hl : m.loads bA 0 1 = some [u]) {n : Nat}
    (hn : ∀ u' w', Hold P E w₀ σ ρ m w' → VRel ρ u u' → J n ((permOf ρ m).or E) (putG g u') w') : J (n + 1) ((permOf ρ m).or E) g w := by
  have hop : opA P (fun _ => ptrTo bA 0) (opOf g) m = some (u, m) := by
    unfold opA
    rw [hg.op]
    simp only [loadA, ptrTo, hg.agg, hl]
    rfl
  have hev : ∀ x ∈ (opOf g).op.operands, VRel ρ ((fun _ => ptrTo bA 0 : Operand → Value) x) ((actOf g).eval x) := by
    intro x hx
    rw [hg.op] at hx
    simp only [Op.operands, Array.mem_singleton, List.mem_toArray, List.mem_cons, List.not_mem_nil, or_false] at hx
    subst hx
    rw [hg.arg]
    exact ⟨1, p, hp, rfl, by rw [hc, hd]; rfl⟩
  have key : J (n + 1) ((permOf ρ m).or E) (reG g) w := op_real hJ hg.at_.op hg.at_.wanted hg.at_.ne H hev hop fun ρ' v' w' hle hold H' hv => by
    have e := ren_same H.sim H'.sim hold
    subst e
    exact hn v' w' H' hv
  rwa [← hg.at_.eq] at key
theorem box_real (hJ : Judge P main J) {u u' : Value} (hg : BoxAt g u') (H : Hold P E w₀ σ ρ m w) (hu : VRel ρ u u') (hcell : u.cells.toList = [u]) {n : Nat}
    (hn : ∀ ρ' p w', ρ.le ρ' → (∀ b, b < m.next → ρ' b = ρ b) → Hold P E w₀ σ ρ' (newCells m 0 [u]).2 w' → ρ' m.next = some p → p.d = 0 → J n ((permOf ρ' (newCells m 0 [u]).2).or E) (putG g (ptrW p.c 0)) w') : J (n + 1) ((permOf ρ m).or E) g w := by
  have hop : opA P (fun _ => u) (opOf g) m = some (newCells m 0 [u]) := by
    unfold opA
    rw [hg.op]
    simp only [hcell]
  have hev : ∀ x ∈ (opOf g).op.operands, VRel ρ ((fun _ => u : Operand → Value) x) ((actOf g).eval x) := by
    intro x hx
    rw [hg.op] at hx
    simp only [Op.operands, Array.mem_singleton, List.mem_toArray, List.mem_cons, List.not_mem_nil, or_false] at hx
    subst hx
    rw [hg.arg]
    exact hu
  have key : J (n + 1) ((permOf ρ m).or E) (reG g) w := op_real hJ hg.at_.op hg.at_.wanted hg.at_.ne H hev (v := (newCells m 0 [u]).1) hop fun ρ' v' w' hle hold H' hv => by
    obtain ⟨k, hv⟩ := hv
    cases k with
    | zero => exact hv.elim
    | succ k =>
      obtain ⟨p, hp, _, rfl⟩ := hv
      have hp : ρ' m.next = some p := hp
      have hb : (newCells m 0 [u]).2.blk m.next = { ({ kind := 1, sz := 0, cs := [u].map some, pos := 1 } : Blk) with stamp := m.tick } := by
        show (m.alloc _).blk m.next = _
        rw [Mem.blk_alloc, if_pos rfl]
      have hd : p.d = 0 := H'.sim.vars m.next p hp (by show ((newCells m 0 [u]).2.blk m.next).kind = 1; rw [hb]) (by show ((newCells m 0 [u]).2.blk m.next).pos = 1; rw [hb])
      have := hn ρ' p w' hle hold H' hp hd
      show J n _ (putG g (.pointer (some ⟨p.c, p.d + 0, none⟩))) w'
      rw [hd]
      exact this
  rwa [← hg.at_.eq] at key
end

section
variable {X : Ext} {cw : CallT} {ρ : Ren} {m m2 : Mem} {l rest : List Span} {w : World} {f bA1 bA2 wa Wg : Nat} {p1 p2 pw : Pl} {first cap : Array Value} {v : Value}
theorem child_jw (hX : Fine Tryz.prog X) (hcw : Worker Tryz.prog X cw) (HC : Hold Tryz.prog noP w .wrk ρ (spawnC m l rest) w) (h1 : ρ bA1 = some p1) (d1 : p1.d = 0) (h2 : ρ bA2 = some p2) (d2 : p2.d = 0)
    (hl2 : (spawnC m l rest).loads bA2 0 1 = some [.func (.func f) first cap]) (hl1 : m2.loads bA1 0 1 = some [ptrTo wa 0]) (hcall : cw f (first.toList ++ [] ++ cap.toList) (spawnC m l rest) = some (v, m2)) (hb : bodied Tryz.prog f = true)
    (hw : ρ wa = some pw) (hwc : pw.c = Wg) (hwd : pw.d = 0) (hdf : m2.deaf = 0) (hbase : m.base ≤ m.next) :
    ∃ N, JW Tryz.prog Wg (postOf (snapOf m m2 l rest) ρ) N ((permOf ρ (spawnC m l rest)).or noP) (ch0 p1.c p2.c) w := by
  have hJ : ∀ σ : GSt, Judge Tryz.prog false ((fun _ n R g w => JW Tryz.prog Wg (postOf (snapOf m m2 l rest) ρ) n R g w : JT) σ) := fun _ => judge_jw
  obtain ⟨fr, _, hbd⟩ := hcw.ok hJ f _ _ v m2 HC.wf hcall
  obtain ⟨c, hbd⟩ := hbd hb
  refine ⟨(219 + 1 + 1 + 15 + 1 + 17 + c + 1 + 1) + 7, ?_⟩
  obtain ⟨a1, a2, a3, a4, a5, a6⟩ := ch_s1 p1.c p2.c .nilIface
  refine chain_real judge_jw a1 fun w₁ k₁ => ?_
  show JW Tryz.prog Wg (postOf (snapOf m m2 l rest) ρ) (219 + 1 + 1 + 15 + 1 + 17 + c + 1 + 1) ((permOf ρ (spawnC m l rest)).or noP) (ch1 p1.c p2.c) w₁
  refine load_real judge_jw a3 (HC.keeps k₁) h2 rfl d2 hl2 fun u' w₂ H₂ hu => ?_
  obtain ⟨_, _, _, b4, b5, b6⟩ := ch_s1 p1.c p2.c u'
  have key : JW Tryz.prog Wg (postOf (snapOf m m2 l rest) ρ) (219 + 1 + 1 + 15 + 1 + 17 + c + 1) ((permOf ρ (spawnC m l rest)).or noP) (reG (ch2 p1.c p2.c u')) w₂ := by
    refine call_real hJ hX b4.op b4.wanted b4.ne H₂ (ev := fun _ => .func (.func f) first cap) (fun x hx => ?_) (.inl ⟨_, _, _, first, cap, b5, rfl, rfl⟩) hb fun w₃ args' H₃ hr => ?_
    · rw [b5] at hx
      simp only [Op.operands, Call.operands, Array.append_empty, Array.mem_singleton, List.mem_toArray, List.mem_cons, List.not_mem_nil, or_false] at hx
      subst hx
      rw [b6]
      exact hu
    · refine hbd args' _ _ (219 + 1 + 1 + 15 + 1 + 17) .normal H₃ hr (.inl rfl) fun σ' ρ' v' w₄ hle hold H₄ hv => ?_
      rw [if_pos rfl, finish_op b4.op]
      show JW Tryz.prog Wg (postOf (snapOf m m2 l rest) ρ) (219 + 1 + 1 + 15 + 1 + 17) ((permOf ρ' m2).or noP) (ch3 p1.c p2.c u' v') w₄
      obtain ⟨c1, c2, c3⟩ := ch_s3 p1.c p2.c u' v'
      refine chain_real judge_jw c1 fun w₅ k₅ => ?_
      refine load_real judge_jw c3 (H₄.keeps k₅) (hle _ _ h1) rfl d1 hl1 fun x' w₆ H₆ hx' => ?_
      have ex : x' = ptrW Wg 0 := by
        obtain ⟨k, hx'⟩ := hx'
        cases k with
        | zero => exact hx'.elim
        | succ k =>
          obtain ⟨q, hq, _, rfl⟩ := hx'
          have hq : ρ' wa = some q := hq
          rw [hle _ _ hw] at hq
          cases hq
          rw [hwc, hwd]
          rfl
      subst ex
      obtain ⟨e1, e2, e3, e4, e5, _, _, _⟩ := ch_s5 Wg p1.c p2.c u' v'
      show JW Tryz.prog Wg _ (219 + 1 + 1 + 15) _ (ch5 Wg p1.c p2.c u' v') w₆
      refine chain_real judge_jw e1 fun w₇ k₇ => ?_
      have H₇ := H₆.keeps k₇
      refine .inr ⟨isRun_iff.1 e2, fun w₈ k₈ hlw => .own ⟨conv_step e3 (by omega) w₈ hlw, Chg.refl _ _ _, fun e he => by simp at he, Within.refl _ _, rfl, id⟩ ?_⟩
      have H₈ := H₇.keeps k₈
      refine .inr ⟨isRun_iff.1 e4, fun w₉ k₉ hlw => .rel (hdf) ?_ (congrFun e5 w₉) child_jd⟩
      have H₉ := H₈.keeps k₉
      obtain ⟨f1, f2⟩ := fr
      refine ⟨ρ', m2, ⟨rfl, rfl, f1.opn, f1.hid, f1.home, f1.floor, ?_⟩, fun b hb => ?_, H₉.sim, fun _ _ => .inl, fun _ => .inl, fun _ _ => .inl⟩
      · rw [f1.base]; exact hbase
      · exact hold b hb fun s hs => by cases hs
  rw [← b4.eq] at key
  exact key
end
end Go.AM
/-
  (*WaitGroup).Go: 'spawnA' against the starter.
-/
set_option linter.unusedVariables false
set_option linter.unusedSimpArgs false
namespace Go.AM
open Go Go.Conc Go.Proofs
open Go.ConcR (stA smA KK rd wr)

def X0 : Ext := { disable := 64, enable := 66, acquire := 67, relMerge := 69, cas32 := 65, add32 := 70, wgGo := 137, wgWait := 140, fillA := 138, fillB := 270 }
/-- What is to be shown of the starter. -/
def Jn (Fin : Value → World → Prop) : JT := fun σ n R g w => match σ with
  | .wrk => True
  | s => JM Tryz.prog Fin s n R g w
theorem judge_jn {Fin : Value → World → Prop} : ∀ σ, Judge Tryz.prog true (Jn Fin σ)
  | .wrk => ⟨fun _ => trivial, fun _ _ => trivial⟩
  | .idle => judge_jm .idle
  | .grp g => judge_jm (.grp g)
theorem loads_one {m : Mem} {b : Nat} {v : Value} (h1 : (m.blk b).kind = 1) (h2 : touchesBlk m.hid b = false) (h3 : (m.blk b).cs[0]? = some (some v)) : m.loads b 0 1 = some [v] := by
  unfold Mem.loads
  simp only [h1, touches_meets h2]
  cases hc : (m.blk b).cs with
  | nil => rw [hc] at h3; cases h3
  | cons x l =>
    rw [hc] at h3
    simp only [List.getElem?_cons_zero, Option.some.injEq] at h3
    subst h3
    simp [takeLive]
theorem SubP.or {R S E : Perm} (h : SubP R S) : SubP (R.or E) (S.or E) := ⟨fun b o x => x.imp (h.rd b o) id, fun b o x => x.imp (h.wr b o) id, fun b x => x.imp (h.ob b) id⟩
theorem SubP.or0 {R S E : Perm} (h : SubP R S) : SubP (R.or noP) (S.or E) := ⟨fun b o x => x.elim (fun y => .inl (h.rd b o y)) False.elim, fun b o x => x.elim (fun y => .inl (h.wr b o y)) False.elim, fun b x => x.elim (fun y => .inl (h.ob b y)) False.elim⟩
theorem wf_M {m m2 : Mem} {l rest : List Span} (hw : Wf m) (hl : Lent m l rest) (hf : FrW (spawnC m l rest) m2) : Wf (spawnM m m2 l rest) := by
  have hw2 := hf.2 (wf_C hw hl)
  have hn : m.next ≤ m2.next := hf.1.next
  refine ⟨hw2.stamp, hw2.far, fun s hs' => ?_, Nat.le_refl _, hw2.live⟩
  have hs' : s ∈ (m.next, m2.next, none) :: (l ++ m.hid) := hs'
  rcases List.mem_cons.1 hs' with rfl | hs'
  · exact Nat.le_refl _
  · rcases List.mem_append.1 hs' with h | h
    · exact Nat.le_trans (hl.below s (.inr h)) hn
    · exact Nat.le_trans (hw.hid s h) hn
theorem mv_spawn {m m2 : Mem} {l rest : List Span} (hl : Lent m l rest) (hf : FrW (spawnC m l rest) m2) : Mv m (spawnM m m2 l rest) := by
  refine ⟨hf.1.next, hf.1.tick, fun hw => wf_M hw hl hf, fun b => ?_, fun s hs => ?_⟩
  · rcases hf.1.blk b with e | ⟨e, _⟩
    · exact .inl e
    · exact .inr e
  · have hs : s ∈ snapOf m m2 l rest :: m.pend := hs
    rcases List.mem_cons.1 hs with rfl | hs
    · exact .inr (Nat.le_refl _)
    · exact .inl hs
theorem groupA_some {wa d o : Nat} {m m₀ : Mem} {w' : Nat} (hg : m.wg = some w') (h : groupA wa d o m = some m₀) : m₀ = m ∧ wa = w' := by
  unfold groupA at h
  rw [hg] at h
  simp only [] at h
  split at h
  · rename_i e
    cases h
    exact ⟨rfl, e⟩
  · cases h
theorem mv_group {wa d o : Nat} {m m₀ : Mem} (h : groupA wa d o m = some m₀) : Mv m m₀ ∧ m₀.next = m.next ∧ m₀.wg = some wa ∧ m₀.deaf = m.deaf := by
  cases hg : m.wg with
  | some w' =>
    obtain ⟨rfl, rfl⟩ := groupA_some hg h
    exact ⟨Mv.refl _, rfl, hg, rfl⟩
  | none =>
    obtain ⟨l, rfl, _, _, _, c2, _⟩ := groupA_new hg h
    have hfr := FrD.own c2
    refine ⟨⟨Nat.le_refl _, Nat.le_succ _, fun hw => ?_, fun b => ?_, fun s hs => .inl hs⟩, rfl, rfl, rfl⟩
    · have hw' := hfr.2.2 hw
      exact ⟨hw'.stamp, hw'.far, hw'.hid, Nat.le_refl _, hw'.live⟩
    · rcases hfr.1.blk b with e | ⟨e, _⟩
      · exact .inl e
      · exact .inr e

/-- Behind the two boxes of Go's own. -/
def boxM (m₀ : Mem) (wa : Nat) (clo : Value) : Mem := (newCells (newCells m₀ 0 [ptrTo wa 0]).2 0 [clo]).2
theorem boxM_next (m₀ : Mem) (wa : Nat) (clo : Value) : (boxM m₀ wa clo).next = m₀.next + 2 := rfl
theorem boxM_fr (m₀ : Mem) (wa : Nat) (clo : Value) : FrD m₀ (boxM m₀ wa clo) := (FrD.alloc m₀ _ (by refine And.intro ?_ (by simp); intro x hx; first | (cases hx; done) | (obtain ⟨y, _, hy⟩ := List.mem_map.1 hx; rw [← hy]; simp))).trans (FrD.alloc _ _ (by refine And.intro ?_ (by simp); intro x hx; first | (cases hx; done) | (obtain ⟨y, _, hy⟩ := List.mem_map.1 hx; rw [← hy]; simp)))
theorem boxM_blk1 (m₀ : Mem) (wa : Nat) (clo : Value) : ((boxM m₀ wa clo).blk m₀.next).kind = 1 ∧ ((boxM m₀ wa clo).blk m₀.next).cs = [some (ptrTo wa 0)] := by
  have e : (boxM m₀ wa clo).blk m₀.next = (m₀.alloc { kind := 1, sz := 0, cs := [ptrTo wa 0].map some, pos := 1 }).blk m₀.next := by
    show ((m₀.alloc _).alloc _).blk m₀.next = _
    rw [Mem.blk_alloc, if_neg (by show ¬ m₀.next + 1 = m₀.next; omega)]
  rw [e, Mem.blk_alloc, if_pos rfl]
  exact ⟨rfl, rfl⟩
theorem boxM_blk2 (m₀ : Mem) (wa : Nat) (clo : Value) : ((boxM m₀ wa clo).blk (m₀.next + 1)).kind = 1 ∧ ((boxM m₀ wa clo).blk (m₀.next + 1)).cs = [some clo] := by
  show (((m₀.alloc _).alloc _).blk (m₀.next + 1)).kind = 1 ∧ (((m₀.alloc _).alloc _).blk (m₀.next + 1)).cs = _
  rw [Mem.blk_alloc, if_pos (show (m₀.alloc _).next = m₀.next + 1 from rfl)]
  exact ⟨rfl, rfl⟩

section
variable {Fin : Value → World → Prop} {E : Perm} {w₀ : World} {gr : GS} {ρ : Ren} {m₀ m2 : Mem} {w : World} {cw : CallT} {wa f k : Nat} {first cap : Array Value} {clo' v : Value} {l rest : List Span} {fr : Frame} {cs : List Frame}
theorem go_grp (hX : Fine Tryz.prog X0) (hcw : Worker Tryz.prog X0 cw) (H : Hold Tryz.prog E w₀ (.grp gr) ρ m₀ w) (hwg : m₀.wg = some wa) {pw : Pl} (hpw : ρ wa = some pw) (hclo : VRel ρ (.func (.func f) first cap) clo') (hl : Lent (boxM m₀ wa (.func (.func f) first cap)) l rest)
    (hlow : ∀ s, s ∈ rest ∨ s ∈ l → s.2.1 ≤ m₀.next) (hdeaf : m₀.deaf = 0) (hlen : m₀.pend.length < 4)
    (hcall : cw f (first.toList ++ [] ++ cap.toList) (spawnC (boxM m₀ wa (.func (.func f) first cap)) l rest) = some (v, m2)) (hd2 : m2.deaf = 0) (hb : bodied Tryz.prog f = true)
    (hn : ∀ σ' ρ' w', ρ.le ρ' → (∀ b, b < m₀.next → ρ' b = ρ b) → σ' ≠ .wrk → Hold Tryz.prog E w₀ σ' ρ' (spawnM (boxM m₀ wa (.func (.func f) first cap)) m2 l rest) w' →
      JM Tryz.prog Fin σ' k ((permOf ρ' (spawnM (boxM m₀ wa (.func (.func f) first cap)) m2 l rest)).or E) (G (fr.finish unitV) cs) w') :
    JM Tryz.prog Fin (.grp gr) (k + 3 + 1 + 3 + 143 + 1 + 1 + 3 + 1 + 1 + 2) ((permOf ρ m₀).or E) (goG gr.Wg clo' fr cs) w := by
  obtain ⟨Wg, ps, sub⟩ := gr
  obtain ⟨g1, g2, g0, wa', k1, k2, k3, k4, k5, k6, k7⟩ := H.grp
  have g1 : sub = .opn ps.length := g1
  subst g1
  rw [hwg] at k1
  cases k1
  obtain ⟨kc, kd⟩ := k4 pw hpw
  have hps : ps.length < VM := by have := k5.length; show ps.length < 4; rw [← this]; exact hlen
  obtain ⟨a1, a2, _, _, _, _, _⟩ := go_s1 Wg 0 0 clo' fr cs
  refine chain_jm (n := 2) a1 fun w₁ h₁ => ?_
  show JM Tryz.prog Fin _ (k + 3 + 1 + 3 + 143 + 1 + 1 + 3 + 1 + 1) _ (go1 Wg clo' fr cs) w₁
  have H₁ := H.keeps h₁
  refine box_real (u := ptrTo wa 0) (judge_jm _) a2 H₁ ⟨1, pw, hpw, rfl, by rw [kc, kd]; rfl⟩ rfl fun ρ₁ p₁ w₂ le₁ old₁ H₂ hp₁ hd₁ => ?_
  obtain ⟨_, _, a3, _, _, _, _⟩ := go_s1 Wg p₁.c 0 clo' fr cs
  show JM Tryz.prog Fin _ (k + 3 + 1 + 3 + 143 + 1 + 1 + 3 + 1) _ (go2 Wg p₁.c clo' fr cs) w₂
  refine box_real (judge_jm _) a3 H₂ (hclo.ren le₁) rfl fun ρ₂ p₂ w₃ le₂ old₂ H₃ hp₂ hd₂ => ?_
  obtain ⟨_, _, _, a4, a5, a6, a7⟩ := go_s1 Wg p₁.c p₂.c clo' fr cs
  obtain ⟨m, hm⟩ : ∃ m, m = boxM m₀ wa (.func (.func f) first cap) := ⟨_, rfl⟩
  have H₃ : Hold Tryz.prog E w₀ (.grp ⟨Wg, ps, .opn ps.length⟩) ρ₂ m w₃ := by rw [hm]; exact H₃
  show JM Tryz.prog Fin _ (k + 3 + 1 + 3 + 143 + 1 + 1 + 3) ((permOf ρ₂ (boxM m₀ wa (.func (.func f) first cap))).or E) (go3 Wg p₁.c p₂.c clo' fr cs) w₃
  have hmn : m.next = m₀.next + 2 := by rw [hm]; rfl
  have hmh : m.hid = m₀.hid := by rw [hm]; exact (boxM_fr _ _ _).1.hid
  have hmw : m.wg = some wa := by rw [hm]; exact (boxM_fr _ _ _).1.wg.trans hwg
  have hmd : m.deaf = 0 := by rw [hm]; exact (boxM_fr _ _ _).2.1.trans hdeaf
  have hmp : m.pend = m₀.pend := by rw [hm]; exact (boxM_fr _ _ _).1.pend
  have hb1 : (m.blk m₀.next).kind = 1 ∧ (m.blk m₀.next).cs = [some (ptrTo wa 0)] := by rw [hm]; exact boxM_blk1 ..
  have hb2 : (m.blk (m₀.next + 1)).kind = 1 ∧ (m.blk (m₀.next + 1)).cs = [some (.func (.func f) first cap)] := by rw [hm]; exact boxM_blk2 ..
  rw [← hm] at hl hcall hn ⊢
  have hp1 : ρ₂ m₀.next = some p₁ := le₂ _ _ hp₁
  have hp2 : ρ₂ (m₀.next + 1) = some p₂ := hp₂
  have hpw₂ : ρ₂ wa = some pw := le₂ _ _ (le₁ _ _ hpw)
  have hold : ∀ b, b < m₀.next → ρ₂ b = ρ b := fun b hb => (old₂ b (Nat.lt_succ_of_lt hb)).trans (old₁ b hb)
  have hun : ∀ b, m₀.next ≤ b → touchesBlk m.hid b = false := fun b hb => not_touches fun x hx h1 h2 => by
    rw [hmh] at hx
    have := H.wf.hid x hx
    omega
  have hun2 : ∀ b, m₀.next ≤ b → touchesBlk (rest ++ m.hid) b = false := fun b hb => by
    rw [touches_append, hun b hb, not_touches fun x hx h1 h2 => ?_]
    · rfl
    · have := hlow x (.inl hx); omega
  have hfr : FrW (spawnC m l rest) m2 := hcw.fr (wf_C H₃.wf hl) hcall
  refine chain_jm (n := 3) a4 fun w₄ h₄ => ?_
  show JM Tryz.prog Fin _ (k + 3 + 1 + 3 + 143 + 1 + 1) _ (go4 Wg p₁.c p₂.c clo' fr cs) w₄
  refine load_real (judge_jm _) a5 (H₃.keeps h₄) hp1 rfl hd₁ (loads_one hb1.1 (hun _ (Nat.le_refl _)) (by rw [hb1.2]; rfl)) fun u' w₅ H₅ hu => ?_
  have eu : u' = ptrW Wg 0 := by
    obtain ⟨j, hu⟩ := hu
    cases j with
    | zero => exact hu.elim
    | succ j =>
      obtain ⟨q, hq, _, rfl⟩ := hu
      have hq : ρ₂ wa = some q := hq
      rw [hpw₂] at hq
      cases hq
      rw [kc, kd]; rfl
  subst eu
  show JM Tryz.prog Fin _ (k + 3 + 1 + 3 + 143 + 1) _ (go5 Wg p₁.c p₂.c clo' fr cs) w₅
  refine chain_jm (n := 1) a6 fun w₆ h₆ => ?_
  rw [a7]
  have H₆ := H₅.keeps h₆
  refine add_jm (k := k + 3 + 1 + 3) hps hmd fun w₇ h₇ => ?_
  have H₇ := H₆.keeps h₇
  obtain ⟨b1, b2, b3, b4, b5, b6⟩ := go_s6 Wg p₁.c p₂.c clo' fr cs
  show JM Tryz.prog Fin _ (k + 3 + 1 + 3) _ (go6 Wg p₁.c p₂.c clo' fr cs) w₇
  refine chain_jm (n := 3) b1 fun w₈ h₈ => ?_
  show JM Tryz.prog Fin _ (k + 3 + 1) _ (go7 Wg p₁.c p₂.c clo' fr cs) w₈
  refine .inr fun w₉ h₉ _ => ?_
  have H₉ := (H₇.keeps h₈).keeps h₉
  obtain ⟨N, hN⟩ := child_jw (Wg := Wg) hX hcw (hold_C H₉ hl) hp1 hd₁ hp2 hd₂ (loads_one hb2.1 (hun2 _ (Nat.le_succ _)) (by show (m.blk (m₀.next + 1)).cs[0]? = _; rw [hb2.2]; rfl))
    (by
      have hc : covers l m₀.next 0 = false := not_covers fun x hx h1 h2 _ => by have := hlow x (.inr hx); omega
      have hh : touchesBlk m2.hid m₀.next = false := by rw [hfr.1.hid]; exact hun2 _ (Nat.le_refl _)
      rcases child_cell (o := 0) hfr.1 (show m₀.next < m.next by omega) hc with e | ⟨_, e1, _, e2⟩
      · exact loads_one (by rw [e]; exact hb1.1) hh (by rw [e, hb1.2]; rfl)
      · exact loads_one e1 hh (by rw [e2, hb1.2]; rfl)) hcall hb hpw₂ kc kd hd2 (by rw [hm]; show m₀.base ≤ m₀.next + 2; have := g0.2; omega)
  refine .spawn (isRun_iff.1 b2) hmd (congrFun b3 w₉) (SubP.or (sub_M H₉.sim hl hfr.1)) (SubP.or0 (sub_C H₉.sim hl)) (fun b o x => x.elim (fun y => .inl (permOf_wr_rd y)) fun y => .inr (H₉.apart.wf b o y)) (fun b o x => x.elim (fun y => .inl (permOf_wr_rd y)) False.elim) hd2 hmd
    (dis_MC H₉.ew H₉.sim hl hfr.1) (dis_CM H₉ hl hfr.1) (stable_post _ _) hN ?_
  have HM := hold_M H₉ hl hfr (by rw [hmp]; exact hlen)
  refine chain_jm (n := 3) b5 fun wA hA => ?_
  rw [b6]
  exact hn _ ρ₂ wA (Ren.le_trans le₁ le₂) hold (by simp) (HM.keeps hA)
end
end Go.AM
/-
  CALLS: the starter's ('callN').
-/
set_option linter.unusedVariables false
set_option linter.unusedSimpArgs false
namespace Go.AM
open Go Go.Conc Go.Proofs
open Go.ConcR (stA smA KK rd wr)

theorem shareA_inv {X : Ext} {clo : Value} {m : Mem} {d o i : Nat} (h : shareA X clo m = some (d, o, i)) : ∃ f first cap, clo = .func (.func f) first cap ∧ (f = X.fillA ∨ f = X.fillB) := by
  unfold shareA at h
  split at h
  · rename_i f first cap
    split at h
    · rename_i hf
      exact ⟨f, first, cap, rfl, hf⟩
    · cases h
  · cases h
theorem spawnA_inv {X : Ext} {callW : CallT} {args : List Value} {m m' : Mem} {v : Value} (h : spawnA X callW args m = some (v, m')) :
    ∃ w clo d o i m₀ l rest u m2, args = [ptrTo w 0, clo] ∧ shareA X clo m = some (d, o, i) ∧ groupA w d o m = some m₀ ∧ Lent (boxM m₀ w clo) l rest ∧ (∀ s, s ∈ rest ∨ s ∈ l → s.2.1 ≤ m₀.next) ∧ m₀.deaf = 0 ∧ m₀.pend.length < 4 ∧
      callFnA callW clo [] (spawnC (boxM m₀ w clo) l rest) = some (u, m2) ∧ m2.deaf = 0 ∧ v = unitV ∧ m' = spawnM (boxM m₀ w clo) m2 l rest := by
  unfold spawnA at h
  split at h
  · rename_i w clo
    split at h
    · rename_i d o i hs
      split at h
      · rename_i m₀ hg
        simp only [] at h
        split at h
        · rename_i l hl
          split at h
          · rename_i hc
            obtain ⟨c1, c2, c3, c4, c5, c6, c7⟩ := hc
            split at h
            · rename_i u m2 hcall
              split at h
              · rename_i hd
                simp only [Option.some.injEq, Prod.mk.injEq] at h
                obtain ⟨rfl, rfl⟩ := h
                have hlow : ∀ s, s ∈ ((boxM m₀ w clo).opn.filter fun s => !l.contains s) ∨ s ∈ l → s.2.1 ≤ m₀.next := by
                  intro s hs
                  have c6 := List.all_eq_true.1 c6 s (List.mem_append.2 hs)
                  exact Nat.le_of_ble_eq_true c6
                have c6' : ((((boxM m₀ w clo).opn.filter fun s => !l.contains s) ++ l).all fun t => Nat.ble t.2.1 (boxM m₀ w clo).next) = true := by
                  rw [List.all_eq_true]
                  intro s hs
                  exact Nat.ble_eq_true_of_le (Nat.le_trans (hlow s (List.mem_append.1 hs)) (by rw [boxM_next]; omega))
                exact ⟨w, clo, d, o, i, m₀, l, _, u, m2, rfl, hs, hg, lent_of c3 c4 c5 c6' c7, hlow, c1, c2, hcall, hd, rfl, rfl⟩
              · cases h
            · cases h
          · cases h
        · cases h
      · cases h
    · cases h
  · cases h
theorem bodied_fill : bodied Tryz.prog 138 = true ∧ bodied Tryz.prog 270 = true ∧ bodied Tryz.prog 137 = true ∧ bodied Tryz.prog 140 = true := by
  refine ⟨?_, ?_, ?_, ?_⟩ <;> kernel_rfl

section
variable {Fin : Value → World → Prop} {args : List Value} {m m' : Mem} {v : Value}
theorem go_ok (hX : Fine Tryz.prog X0) {cw : CallT} (hcw : Worker Tryz.prog X0 cw) (hw : Wf m) (h : spawnA X0 cw args m = some (v, m')) : Mv m m' ∧ ∃ c,
    ∀ {E : Perm} {w₀ : World} {σ : GSt} {ρ : Ren} {w : World} (args' : Array Value) (fr : Frame) (cs : List Frame) (n : Nat), Hold Tryz.prog E w₀ σ ρ m w → Rel2 (VRel ρ) args args'.toList →
      (∀ σ' ρ' v' w', ρ.le ρ' → OldR m ρ ρ' → Hold Tryz.prog E w₀ σ' ρ' m' w' → VRel ρ' v v' → Jn Fin σ' n ((permOf ρ' m').or E) (G (fr.finish v') cs) w') →
      Jn Fin σ (n + c) ((permOf ρ m).or E) (G (Frame.enter Tryz.prog 137 args' .normal) (fr :: cs)) w := by
  obtain ⟨wa, clo, d, o, i, m₀, l, rest, u, m2, rfl, hs, hg, hl, hlow, hdf, hpl, hcall, hd2, rfl, rfl⟩ := spawnA_inv h
  obtain ⟨f, first, cap, rfl, hf⟩ := shareA_inv hs
  have hb : bodied Tryz.prog f = true := by
    rcases hf with h | h
    · rw [h]; exact bodied_fill.1
    · rw [h]; exact bodied_fill.2.1
  have hcall : cw f (first.toList ++ [] ++ cap.toList) (spawnC (boxM m₀ wa (.func (.func f) first cap)) l rest) = some (u, m2) := hcall
  obtain ⟨mv1, mn1, mw1, md1⟩ := mv_group hg
  have hw0 : Wf m₀ := mv1.wf hw
  have hfr : FrW (spawnC (boxM m₀ wa (.func (.func f) first cap)) l rest) m2 := hcw.fr (wf_C ((boxM_fr _ _ _).2.2 hw0) hl) hcall
  refine ⟨mv1.trans (((boxM_fr m₀ wa (.func (.func f) first cap)).w.mv).trans (mv_spawn hl hfr)), 3 + 1 + 3 + 143 + 1 + 1 + 3 + 1 + 1 + 2 + 1, fun {E w₀ σ ρ w} args' fr cs k H hr hn => ?_⟩
  obtain ⟨al⟩ := args'
  match al, hr with
  | [x', clo'], hr =>
    obtain ⟨hx, hclo, _⟩ := hr
    obtain ⟨j, hx⟩ := hx
    cases j with
    | zero => exact hx.elim
    | succ j =>
      obtain ⟨pw, hpw, _, rfl⟩ := hx
      have hpw : ρ wa = some pw := hpw
      -- once the group stands
      have go : ∀ (gr : GS) (w : World), Hold Tryz.prog E w₀ (.grp gr) ρ m₀ w → JM Tryz.prog Fin (.grp gr) (k + 3 + 1 + 3 + 143 + 1 + 1 + 3 + 1 + 1 + 2) ((permOf ρ m₀).or E) (G (Frame.enter Tryz.prog 137 #[.pointer (some ⟨pw.c, pw.d + 0, none⟩), clo'] .normal) (fr :: cs)) w := by
        intro gr w H
        obtain ⟨g1, g2, g0, wa', k1, k2, k3, k4, k5, k6, k7⟩ := H.grp
        rw [mw1] at k1
        cases k1
        obtain ⟨kc, kd⟩ := k4 pw hpw
        have := go_grp (Fin := Fin) (k := k) (fr := fr) (cs := cs) hX hcw H mw1 hpw hclo hl hlow hdf hpl hcall hd2 hb fun σ' ρ' w' hle hold hσ H' => by
          have := hn σ' ρ' unitV w' hle (.of fun b hb => hold b (by omega)) H' vrel_unit
          cases σ' with
          | wrk => exact absurd rfl hσ
          | idle => exact this
          | grp g => exact this
        show JM Tryz.prog Fin (.grp gr) _ _ (G (Frame.enter Tryz.prog 137 #[.pointer (some ⟨pw.c, pw.d + 0, none⟩), clo'] .normal) (fr :: cs)) w
        rw [kc, kd]
        exact this
      cases σ with
      | wrk => trivial
      | idle =>
        show JM Tryz.prog Fin .idle ((k + 3 + 1 + 3 + 143 + 1 + 1 + 3 + 1 + 1 + 2) + 1) _ _ w
        refine .inr fun w₁ h₁ _ => ?_
        obtain ⟨hd, H', a1, a2, a3, a4, a5, a6, a7⟩ := group_begin (H.keeps h₁) hg hpw
        exact .begins a1 a2 a3 a4 a5 a6 a7 (go _ w₁ H')
      | grp gr =>
        obtain ⟨g1, g2, g0, wa', k1, _⟩ := H.grp
        obtain ⟨rfl, rfl⟩ := groupA_some k1 hg
        exact JM.le (go gr w H) (Nat.le_succ _)
theorem wait_ok (h : joinA args m = some (v, m')) : Mv m m' ∧ ∃ c,
    ∀ {E : Perm} {w₀ : World} {σ : GSt} {ρ : Ren} {w : World} (args' : Array Value) (fr : Frame) (cs : List Frame) (n : Nat), Hold Tryz.prog E w₀ σ ρ m w → Rel2 (VRel ρ) args args'.toList →
      (∀ σ' ρ' v' w', ρ.le ρ' → OldR m ρ ρ' → Hold Tryz.prog E w₀ σ' ρ' m' w' → VRel ρ' v v' → Jn Fin σ' n ((permOf ρ' m').or E) (G (fr.finish v') cs) w') →
      Jn Fin σ (n + c) ((permOf ρ m).or E) (G (Frame.enter Tryz.prog 140 args' .normal) (fr :: cs)) w := by
  unfold joinA at h
  split at h
  · rename_i wa w' hwg
    split at h
    · rename_i hc
      obtain ⟨rfl, c1, c2, c3⟩ := hc
      simp only [Option.some.injEq, Prod.mk.injEq] at h
      obtain ⟨rfl, rfl⟩ := h
      refine ⟨mv_join m (Nat.le_of_ble_eq_true c3), 300 * 5 + 7, fun {E w₀ σ ρ w} args' fr cs k H hr hn => ?_⟩
      obtain ⟨al⟩ := args'
      match al, hr with
      | [x'], hr =>
        obtain ⟨hx, _⟩ := hr
        obtain ⟨j, hx⟩ := hx
        cases j with
        | zero => exact hx.elim
        | succ j =>
          obtain ⟨pw, hpw, _, rfl⟩ := hx
          have hpw : ρ wa = some pw := hpw
          cases σ with
          | wrk => trivial
          | idle =>
            have := H.grp.1
            rw [hwg] at this; cases this
          | grp gr =>
            obtain ⟨Wg, ps, sub⟩ := gr
            obtain ⟨g1, g2, g0, wa', k1, k2, k3, k4, k5, k6, k7⟩ := H.grp
            have g1 : sub = .opn ps.length := g1
            subst g1
            rw [hwg] at k1
            cases k1
            obtain ⟨kc, kd⟩ := k4 pw hpw
            have g2 : ps.length ≤ 4 := g2
            show JM Tryz.prog Fin (.grp ⟨Wg, ps, .opn ps.length⟩) (k + (300 * 5 + 7)) ((permOf ρ m).or E) (G (Frame.enter Tryz.prog 140 #[.pointer (some ⟨pw.c, pw.d + 0, none⟩)] .normal) (fr :: cs)) w
            rw [kc, kd]
            refine JM.le (n := k + 300 * (ps.length + 1) + 7) ?_ (by omega)
            refine wait_jm (R := (permOf ρ m).or E) g2 c1 fun w₁ h₁ => ?_
            intro Rs hRs hP
            obtain ⟨ρ', b1, b2, b3, b4, b5⟩ := join_hold (H.keeps h₁) c2 hRs hP
            exact ⟨(permOf ρ' (joinM m)).or E, c1, fun b o x => x.elim (fun y => .inl (permOf_wr_rd y)) fun y => .inr (b3.apart.wf b o y), b4, b5, hn .idle ρ' unitV w₁ b1 b2 b3 vrel_unit⟩
    · cases h
  · cases h
/-- As the starter calls, the calls of 'tw' being known. -/
def callT (P : Program) (X : Ext) (cw tw : CallT) : Nat → CallT
  | 0 => fun _ _ _ => none
  | n + 1 => fun f args m =>
    match tw f args m with
    | some r => some r
    | none => if Nat.beq f X.wgGo then spawnA X cw args m else if Nat.beq f X.wgWait then joinA args m else (tabOf P X f).body (callT P X cw tw n) args m
theorem callT_ok (hX : Fine Tryz.prog X0) {cw tw : CallT} (hcw : Worker Tryz.prog X0 cw) (htw : CallOk Tryz.prog X0 true (Jn Fin) Mv tw) : ∀ n, CallOk Tryz.prog X0 true (Jn Fin) Mv (callT Tryz.prog X0 cw tw n)
  | 0 => by intro f args m v m' hw h; cases h
  | n + 1 => by
    intro f args m v m' hw h
    unfold callT at h
    split at h
    · rename_i r hr
      cases h
      exact htw f args m v m' hw hr
    · split at h
      · rename_i hf
        have hf : f = 137 := Nat.eq_of_beq_eq_true hf
        subst hf
        obtain ⟨h1, c, h2⟩ := go_ok (Fin := Fin) hX hcw hw h
        refine ⟨h1, fun hb => (by rw [bodied_fill.2.2.1] at hb; cases hb), fun _ => ⟨c, fun {E w₀ σ ρ w} args' fr cs k kind H hr hk hn => ?_⟩⟩
        rcases hk with rfl | ⟨_, _, hne, _⟩
        · exact h2 args' fr cs k H hr fun σ' ρ' v' w' a b c d => by have := hn σ' ρ' v' w' a b c d; rw [if_pos rfl] at this; exact this
        · exact absurd rfl hne
      · split at h
        · rename_i hf
          have hf : f = 140 := Nat.eq_of_beq_eq_true hf
          subst hf
          obtain ⟨h1, c, h2⟩ := wait_ok (Fin := Fin) h
          refine ⟨h1, fun hb => (by rw [bodied_fill.2.2.2] at hb; cases hb), fun _ => ⟨c, fun {E w₀ σ ρ w} args' fr cs k kind H hr hk hn => ?_⟩⟩
          rcases hk with rfl | ⟨_, _, _, hne⟩
          · exact h2 args' fr cs k H hr fun σ' ρ' v' w' a b c d => by have := hn σ' ρ' v' w' a b c d; rw [if_pos rfl] at this; exact this
          · exact absurd rfl hne
        · exact tab_ok judge_jn hX frel_mv (callT_ok hX hcw htw n) f args m v m' hw h
end
end Go.AM
/-
  WHAT THE ABSTRACT MACHINE ASKS OF THIS PROGRAM ('Fine').
-/
set_option linter.unusedVariables false
set_option linter.unusedSimpArgs false
set_option maxRecDepth 100000
namespace Go.AM
open Go Go.Conc Go.Proofs

def namesOk (P : Program) : Bool := P.funcs.toList.all fun fn => fn.body.isNone || !(fn.name == "runtime.NumGoroutine")
theorem names_of {P : Program} (h : namesOk P = true) (f : Nat) (fn : Func) (hf : P.funcs[f]? = some fn) (hb : fn.body.isSome = true) : (fn.name == "runtime.NumGoroutine") = false := by
  unfold namesOk at h
  rw [List.all_eq_true] at h
  have := h fn (by rw [← Array.getElem?_toList] at hf; exact List.mem_of_getElem? hf)
  cases hx : fn.body with
  | none => rw [hx] at hb; cases hb
  | some c => rw [hx] at this; simpa using this
theorem fine_tryz : Fine Tryz.prog X0 := by
  refine ⟨names_of (by kernel_rfl), by kernel_rfl, ?_, ?_, ?_, ?_, ?_, ?_⟩
  · exact ext_of (by kernel_rfl) (by kernel_rfl) (by kernel_rfl)
  · exact ext_of (by kernel_rfl) (by kernel_rfl) (by kernel_rfl)
  · exact ext_of (by kernel_rfl) (by kernel_rfl) (by kernel_rfl)
  · exact ext_of (by kernel_rfl) (by kernel_rfl) (by kernel_rfl)
  · exact ext_of (by kernel_rfl) (by kernel_rfl) (by kernel_rfl)
  · exact ext_of (by kernel_rfl) (by kernel_rfl) (by kernel_rfl)
end Go.AM
/-
  A CALL THAT TOUCHES GLOBALS ALONE: what it yields from the memory of globals it yields from any, and memory is as it was ('twin_ok').
-/
set_option linter.unusedVariables false
set_option linter.unusedSimpArgs false
namespace Go.AM
open Go Go.Conc Go.Proofs

theorem SubP.trans {R S T : Perm} (h : SubP R S) (k : SubP S T) : SubP R T := ⟨fun b o x => k.rd b o (h.rd b o x), fun b o x => k.wr b o (h.wr b o x), fun b x => k.ob b (h.ob b x)⟩
theorem Dis.subL {R S T : Perm} (h : SubP R S) (d : Dis S T) : Dis R T := ⟨fun b o x => d.cell b o (h.wr b o x), fun b x => d.obj b (h.ob b x)⟩
theorem Dis.subR {R S T : Perm} (h : SubP R S) (d : Dis T S) : Dis T R := ⟨fun b o x y => d.cell b o x (h.rd b o y), fun b x y => d.obj b x (h.ob b y)⟩
theorem EvOK.sub {R S : Perm} (h : SubP R S) {e : Event} (he : EvOK R e) : EvOK S e := by
  unfold EvOK at he ⊢
  split at he
  · refine ⟨he.1, ?_⟩
    split
    · rename_i hw; have := he.2; rw [if_pos hw] at this; exact h.wr _ _ this
    · rename_i hw; have := he.2; rw [if_neg hw] at this; exact h.rd _ _ this
  · exact ⟨h.ob _ he.1, he.2⟩
  · exact he
  · exact he
theorem Keeps.subP {R S : Perm} (h : SubP R S) {w w₁ : World} (k : Keeps S w w₁) : Keeps R w w₁ := k.sub h.rd h.ob
theorem Low.subP {R S : Perm} (h : SubP R S) (hw : ∀ b o, R.wr b o → R.rd b o) {w : World} (l : Low S w) : Low R w := ⟨fun b o x => l.rd b o (h.rd b o x), hw, fun b x => l.ob b (h.ob b x)⟩
theorem Chg.subP {R S : Perm} (h : SubP R S) {N : Nat} {w w₁ : World} (k : Chg R N w w₁) : Chg S N w w₁ :=
  ⟨k.tape, k.os, k.output, k.size, k.shape, fun b o hb hw => k.cell b o hb fun x => hw (h.wr b o x), k.froz, fun b hb ho => k.obj b hb fun x => ho (h.ob b x)⟩
section
variable {P : Program} {Fin : Value → World → Prop}
theorem Stepped.subP {main : Bool} {R S R' : Perm} {g g' : Goroutine} {w w' : World} {es : Array Event} (h : SubP R S) (hw : ∀ b o, R.wr b o → R.rd b o) (hd : R.deaf = S.deaf) (k : Stepped P main R g w R' g' w' es) : Stepped P main S g w R' g' w' es :=
  ⟨k.step, k.chg.subP h, fun e he => (k.ev e he).imp (EvOK.sub h) id, ⟨fun b o x => (k.within.rd b o x).imp (h.rd b o) id, fun b o x => (k.within.wr b o x).imp (h.wr b o) id, fun b x => (k.within.ob b x).imp (h.ob b) id⟩, by rw [← hd]; exact k.deaf, fun l => k.low (l.subP h hw)⟩
/-- With more leave it goes as well. -/
theorem JM.perm : ∀ {n : Nat} {σ : GSt} {R S : Perm} {g : Goroutine} {w : World}, SubP R S → (∀ b o, R.wr b o → R.rd b o) → R.deaf = S.deaf → JM P Fin σ n R g w → JM P Fin σ n S g w
  | 0, _, _, _, _, _, _, _, _, h => h
  | n + 1, σ, R, S, g, w, hs, hw, hd, h => by
    refine h.imp (JM.perm hs hw hd) fun h w₁ hk hl => ?_
    have go : ∀ {σ' : GSt} {g' : Goroutine} {w' : World}, JM P Fin σ' n R g' w' → JM P Fin σ' n S g' w' := fun x => JM.perm hs hw hd x
    cases h w₁ (hk.subP hs) hl with
    | own h1 h2 h3 => exact .own h1 (h2.subP hs hw hd) h3
    | ends h1 h2 h3 h4 h5 => exact .ends h1 h2 (fun e he => (h3 e he).sub hs) (hd ▸ h4) h5
    | begins h1 h2 h3 h4 h5 h6 h7 h8 => exact .begins (h1.trans hs) h2 (h3.trans hd) (hs.wr _ _ h4) (hs.wr _ _ h5) h6 h7 h8
    | add h1 h2 h3 => exact .add h1 h2 fun v hv hc => let ⟨g', a, b⟩ := h3 v hv hc; ⟨g', a, go b⟩
    | said h1 h2 h3 h4 => exact .said h1 h2 h3 (go h4)
    | spawn h1 h2 h3 h4 h5 h6 h7 h8 h9 hA hB hC hD hE => exact .spawn h1 (hd ▸ h2) h3 (h4.trans hs) (h5.trans hs) h6 h7 h8 h9 hA hB hC hD hE
    | load h1 h2 => exact .load h1 fun v hv hc => let ⟨g', a, b, c⟩ := h2 v hv hc; ⟨g', a, fun x => go (b x), fun x => go (c x)⟩
    | cas h1 h2 => exact .cas h1 fun v hv hc => ⟨fun e => let ⟨g', a, b⟩ := (h2 v hv hc).1 e; ⟨g', a, go b⟩, fun e => let ⟨g', a, b⟩ := (h2 v hv hc).2 e; ⟨g', a, go b⟩⟩
    | sem h1 h2 h3 h4 => exact .sem h1 h2 h3 fun hc => let ⟨g', a, b⟩ := h4 hc; ⟨g', a, go b⟩
    | last h1 h2 => exact .last h1 fun hc => let ⟨g', a, b⟩ := h2 hc; ⟨g', a, go b⟩
    | acq h1 h2 h3 h4 =>
      refine .acq h1 (hd ▸ h2) h3 fun Rs hr hp => ?_
      obtain ⟨R', a, b, c, d, e⟩ := h4 Rs (hr.mono fun p T x => ⟨x.1, x.2.1, x.2.2.1.subL hs, x.2.2.2.subR hs⟩) hp
      exact ⟨R', a, b, fun b o x => (c b o x).imp (hs.rd b o) id, fun b x => (d b x).imp (hs.ob b) id, e⟩
theorem jn_perm {σ : GSt} {n : Nat} {R S : Perm} {g : Goroutine} {w : World} (hs : SubP R S) (hw : ∀ b o, R.wr b o → R.rd b o) (hd : R.deaf = S.deaf) (h : Jn Fin σ n R g w) : Jn Fin σ n S g w := by
  cases σ with
  | wrk => trivial
  | idle => exact JM.perm hs hw hd h
  | grp gr => exact JM.perm hs hw hd h
end

/-- A memory of globals alone: block 0 is a row of plain cells, the others are of no use. -/
structure GlobM (G : Nat) (mg : Mem) : Prop where
  wf : Wf mg
  next : mg.next ≤ G
  base : G ≤ mg.base
  floor : G ≤ mg.floor
  opn : mg.opn = []
  hid : mg.hid = []
  deaf : mg.deaf = 0
  kind : ∀ b, b < G → (mg.blk b).kind = 0 ∨ (b = 0 ∧ (mg.blk b).kind = 1)
  plain : ∀ (o : Nat) v, (mg.blk 0).cs[o]? = some (some v) → plain1 v = true
/-- A memory that has those globals. -/
structure HasG (mg m : Mem) : Prop where
  wg : m.wg = none
  deaf : m.deaf = 0
  hid : m.hid = []
  opn : m.opn = []
  fl : 0 < m.floor
  kind : (m.blk 0).kind = 1
  sz : (m.blk 0).sz = (mg.blk 0).sz
  cs : (m.blk 0).cs = (mg.blk 0).cs
def keepR (ρ : Ren) (G : Nat) : Ren := fun b => if b < G then ρ b else none
section
variable {P : Program} {X : Ext} {Fin : Value → World → Prop} {mg mg' m : Mem} {E : Perm} {w₀ w : World} {σ : GSt} {ρ : Ren}
theorem keepR_some {G b : Nat} {p : Pl} (h : keepR ρ G b = some p) : b < G ∧ ρ b = some p := by
  unfold keepR at h
  split at h
  · rename_i hb; exact ⟨hb, h⟩
  · cases h
theorem glob_nowr {G : Nat} (hg : GlobM G mg) (c x : Nat) : ¬ (permOf (keepR ρ G) mg).wr c x := by
  rintro ⟨b, p, h1, _, _, _, _, h5⟩
  have := (keepR_some h1).1
  rcases h5 with h5 | h5
  · have := hg.floor; omega
  · rw [hg.opn] at h5; cases h5
theorem glob_noob {G : Nat} (hg : GlobM G mg) (c : Nat) : ¬ (permOf (keepR ρ G) mg).ob c := by
  rintro ⟨b, p, h1, _, h3, _⟩
  rcases hg.kind b (keepR_some h1).1 with h | ⟨_, h⟩ <;> omega
theorem glob_hold (hg : GlobM P.globals.size mg) (hm : HasG mg m) (hn : mg.next = P.globals.size) (H : Hold P E w₀ σ ρ m w) : Hold P ((permOf ρ m).or E) w .wrk (keepR ρ P.globals.size) mg w := by
  have hk : ∀ b p, keepR ρ P.globals.size b = some p → (mg.blk b).kind ≠ 0 → b = 0 ∧ ρ 0 = some p := fun b p hp h0 => by
    obtain ⟨h1, h2⟩ := keepR_some hp
    rcases hg.kind b h1 with h | ⟨rfl, _⟩
    · exact absurd h h0
    · exact ⟨rfl, h2⟩
  have l := low_or H.sim H.apart
  refine ⟨⟨fun b p hp => ?_, fun b p hp h1 => ?_, fun b p o v hp hc => ?_, fun b p o hp _ _ hb => ?_, fun b p hp h2 _ => ?_, fun b p hp h3 _ => ?_, fun b b' p p' hne hp hp' h0 h0' _ => ?_, fun b p hp => H.sim.inw b p (keepR_some hp).2, fun b p hp h1 _ => ?_⟩,
    Keeps.refl _ _, ⟨fun b o he => ⟨l.rd b o he, glob_nowr hg b o⟩, fun b he => ⟨(l.ob b he).1, glob_noob hg b, (l.ob b he).2⟩, l.wr⟩, fun g hgl => ?_, trivial, hg.wf, fun b p x hp hb => ?_, fun c x hx hr => ?_⟩
  · rw [hn]; exact (keepR_some hp).1
  · obtain ⟨rfl, h2⟩ := hk b p hp (by rw [h1]; simp)
    obtain ⟨a1, a2, a3⟩ := H.sim.cells 0 p h2 hm.kind
    exact ⟨a1.trans hm.sz, by rw [← hm.cs]; exact a2, a3⟩
  · obtain ⟨c1, c2, c3⟩ := cell_some hc
    obtain ⟨rfl, h2⟩ := hk b p hp (by rw [c1]; simp)
    obtain ⟨v', a1, a2⟩ := H.sim.vals 0 p o v h2 (cell_mk hm.kind (by rw [hm.hid]; rfl) (by rw [hm.cs]; exact c3))
    have hpl : plain1 v = true := hg.plain o v c3
    rw [(vrel_same hpl).1 a2] at a1
    exact ⟨v, a1, (vrel_same hpl).2 rfl⟩
  · have := (keepR_some hp).1
    have := hg.base
    omega
  · rcases hg.kind b (keepR_some hp).1 with h | ⟨_, h⟩ <;> omega
  · rcases hg.kind b (keepR_some hp).1 with h | ⟨_, h⟩ <;> omega
  · exact absurd ((hk b p hp h0).1.trans (hk b' p' hp' h0').1.symm) hne
  · obtain ⟨q, a1, a2, a3⟩ := H.glob b (keepR_some hp).1
    rw [(keepR_some hp).2] at a1
    cases a1
    exact a3
  · obtain ⟨q, a1, a2⟩ := H.glob g hgl
    exact ⟨q, by unfold keepR; rw [if_pos hgl]; exact a1, a2⟩
  · have := (keepR_some hp).1
    have := hg.base
    omega
  · obtain ⟨b, p, h1, h2, h3, h4, h5⟩ := hr
    obtain ⟨rfl, h6⟩ := hk b p h1 (by rw [h5.1]; simp)
    rcases hx with ⟨b', p', g1, g2, g3, g4, g5, g6⟩ | hx
    · have hb' : b' ≠ 0 := fun e => by
        subst e
        rcases g6 with g6 | g6
        · have := hm.fl; omega
        · rw [hm.opn] at g6; cases g6
      have := (H.sim.sep b' 0 p' p hb' g1 h6 (by rw [g5.1]; simp) (by rw [hm.kind]; simp) (g2.trans h2.symm)).2.2
      omega
    · obtain ⟨k1, k2, k3⟩ := h5
      exact H.ew c x hx ⟨0, p, h6, h2, h3, h4, hm.kind, by rw [hm.hid]; rfl, by rw [hm.cs]; exact k3⟩
theorem twin_ok {cw : CallT} (hcw : Worker Tryz.prog X cw) (hg : GlobM Tryz.prog.globals.size mg) (hn : mg.next = Tryz.prog.globals.size) {f : Nat} {args : List Value} {v : Value} (hcall : cw f args mg = some (v, mg')) (hd : mg'.deaf = 0)
    (hb : bodied Tryz.prog f = true) (hargs : args.all plain1 = true) (hv : plain1 v = true) (hm : HasG mg m) :
    ∃ c, ∀ {E : Perm} {w₀ : World} {σ : GSt} {ρ : Ren} {w : World} (args' : Array Value) (fr : Frame) (cs : List Frame) (n : Nat) (kind : CallKind),
      Hold Tryz.prog E w₀ σ ρ m w → Rel2 (VRel ρ) args args'.toList → (kind = .normal ∨ (kind = .deferred ∧ fr.mode = .returning ∧ f ≠ X.wgGo ∧ f ≠ X.wgWait)) →
      (∀ σ' ρ' v' w', ρ.le ρ' → OldR m ρ ρ' → Hold Tryz.prog E w₀ σ' ρ' m w' → VRel ρ' v v' → Jn Fin σ' n ((permOf ρ' m).or E) (G (if kind = .normal then fr.finish v' else fr) cs) w') →
      Jn Fin σ (n + c) ((permOf ρ m).or E) (G (Frame.enter Tryz.prog f args' kind) (fr :: cs)) w := by
  obtain ⟨fr, _, hbd⟩ := hcw.ok (main := true) (J := fun _ n R g w => JM Tryz.prog Fin .idle n R g w) (fun _ => judge_jm .idle) f args mg v mg' hg.wf hcall
  obtain ⟨c, hbd⟩ := hbd hb
  refine ⟨c, fun {E w₀ σ ρ w} args' fr cs n kind H hr hk hcont => ?_⟩
  cases σ with
  | wrk => trivial
  | grp gr =>
    obtain ⟨_, _, _, wa, k1, _⟩ := H.grp
    rw [hm.wg] at k1; cases k1
  | idle =>
    have HG := glob_hold hg hm hn H
    have l := low_or H.sim H.apart
    have lg := low_or HG.sim HG.apart
    have ea : args'.toList = args := rel2_plain1 hargs hr
    have hr' : Rel2 (VRel (keepR ρ Tryz.prog.globals.size)) args args'.toList := by rw [ea]; exact plain1_rel2 hargs
    have key := hbd args' fr cs n kind HG hr' hk fun σ' ρ' v' w' hle hold H' hv' => by
      have ev : v' = v := (vrel_same hv).1 hv'
      subst ev
      have := hcont .idle ρ v' w' (Ren.le_refl _) (.of fun _ _ => rfl) (H.keeps H'.rest) ((vrel_same hv).2 rfl)
      exact JM.perm (S := (permOf ρ' mg').or ((permOf ρ m).or E)) ⟨fun _ _ => .inr, fun _ _ => .inr, fun _ => .inr⟩ l.wr (hm.deaf.trans hd.symm) this
    have hrd : ∀ c x, (permOf (keepR ρ Tryz.prog.globals.size) mg).rd c x → ((permOf ρ m).or E).rd c x := by
      rintro c x ⟨b, p, h1, h2, h3, h4, h5⟩
      obtain ⟨h6, h7⟩ := keepR_some h1
      obtain ⟨k1, k2, k3⟩ := h5
      rcases hg.kind b h6 with h | ⟨rfl, _⟩
      · omega
      · exact .inl ⟨0, p, h7, h2, h3, h4, hm.kind, by rw [hm.hid]; rfl, by rw [hm.cs]; exact k3⟩
    have hsub : SubP ((permOf (keepR ρ Tryz.prog.globals.size) mg).or ((permOf ρ m).or E)) ((permOf ρ m).or E) :=
      ⟨fun c x hx => Or.elim hx (hrd c x) id, fun c x hx => Or.elim hx (fun y => absurd y (glob_nowr hg c x)) id, fun c hx => Or.elim hx (fun y => absurd y (glob_noob hg c)) id⟩
    exact JM.perm hsub lg.wr (hg.deaf.trans hm.deaf.symm) key
end
end Go.AM
/-
  THE OUTERMOST CALL: to its end. The memory at its start.
-/
set_option linter.unusedVariables false
set_option linter.unusedSimpArgs false
namespace Go.AM
open Go Go.Conc Go.Proofs

section
variable {P : Program} {X : Ext} {F : Mem → Mem → Prop} {call : CallT} {Fin : Value → World → Prop}
theorem stepG_endC {b : Frame} {a : Act} {todo : List Item} {fn : Func} {v : Value} {w w' : World} (hn : b.kind = .normal) (hd : a.defers = []) (hf : P.funcs[b.fn]? = some fn) (hr : (results fn a.tmps).run P w = .ok v w') (hi : P.inits.idxOf? b.fn = none) :
    stepG P true (G { b.at a todo with mode := .returning } []) w = .ended (.done v) w' (seen P b.fn ((results fn a.tmps).events P w #[])) := by
  simp [G, stepG, unwind, doReturn, Frame.at, hn, hd, hf, hr, GStep.after, hi]
/-- A function with a body, nobody having called it. -/
theorem end_real (hX : Fine Tryz.prog X) (hF : FRel F) (C : CallOk Tryz.prog X true (Jn Fin) F call) {f : Nat} {fn : Func} {c : Code} (hf : Tryz.prog.funcs[f]? = some fn) (hc : fn.body = some c) {n : Nat} {b : Go.AM.F} (hnt : fn.ntmps ≤ 512) (hb : comp Tryz.prog fn.ntmps n c = some b)
    {args : List Value} {m m' : Mem} {v : Value} (hw : Wf m) (h : bodyF Tryz.prog X fn.ntmps fn.results.toList b call args m = some (v, m')) (hdf : m'.deaf = 0) (hwg : m'.wg = none) (hini : Tryz.prog.inits.idxOf? f = none) :
    ∃ c, ∀ {E : Perm} {w₀ : World} {ρ : Ren} {w : World} (args' : Array Value), Hold Tryz.prog E w₀ .idle ρ m w → Rel2 (VRel ρ) args args'.toList →
      (∀ ρ' v' w', Hold Tryz.prog E w₀ .idle ρ' m' w' → VRel ρ' v v' → Fin v' w') →
      JM Tryz.prog Fin .idle c ((permOf ρ m).or E) (G (Frame.enter Tryz.prog f args' .normal) []) w := by
  have hJ := judge_jn (Fin := Fin)
  unfold bodyF at h
  split at h
  · cases h
  · rename_i tm htm
    split at htm
    · rename_i hlen
      rw [ble_d, decide_eq_true_eq] at hlen
      split at h
      · cases h
      · rename_i st hst
        split at h
        · cases h
        · rename_i m2 hdf2
          split at h
          · rename_i v2 hres
            cases h
            unfold endsF at hst
            obtain ⟨e, hbe, he⟩ : ∃ e, b call ⟨tm, m, []⟩ = some (e, st) ∧ (e = .normal ∨ e = .ret) := by
              split at hst
              · rename_i s hs; cases hst; exact ⟨_, hs, .inl rfl⟩
              · rename_i s hs; cases hst; exact ⟨_, hs, .inr rfl⟩
              · cases hst
            obtain ⟨g1, c1, g2⟩ := code_real hJ hX hF C hnt n c b hb hbe hw
            have hw1 := (hF.mv g1).wf hw
            obtain ⟨g3, c2, g4⟩ := defers_real (nt := fn.ntmps) hJ hX hF C hdf2 hw1
            refine ⟨0 + (((1 + c2) + 1) + c1), fun {E w₀ ρ w} args' H hr hn => ?_⟩
            have ha := entry_rel htm hr hlen hnt
            obtain ⟨bb, hbb, hbk, hbf⟩ : ∃ bb : Frame, Frame.enter Tryz.prog f args' .normal = bb.at { tmps := args' ++ Array.replicate (fn.ntmps - args'.size) undef, defers := [] } [.code c] ∧ bb.kind = .normal ∧ bb.fn = f := ⟨base f, enter_at args' hf hc, rfl, rfl⟩
            have hne : bb.kind ≠ .early := by rw [hbk]; simp
            show Jn Fin .idle (0 + (((1 + c2) + 1) + c1)) _ _ _
            rw [hbb, ← Nat.add_assoc]
            refine (g2 []).go hne H ha fun σ' ρ' w' a' todo hout hle hold H' ha' => ?_
            have hway : (∀ w₁, Hold Tryz.prog E w₀ σ' ρ' st.mem w₁ → Jn Fin σ' (0 + (1 + c2)) ((permOf ρ' st.mem).or E) (G { bb.at a' todo with mode := .returning } []) w₁) → Jn Fin σ' (0 + ((1 + c2) + 1)) ((permOf ρ' st.mem).or E) (G (bb.at a' todo) []) w' := by
              intro hJ'
              have hstep : ∀ w, stepG Tryz.prog true (G (bb.at a' todo) []) w = .go (G { bb.at a' todo with mode := .returning } []) w #[] := by
                intro w
                rcases he with rfl | rfl
                · have e : todo = [] := hout
                  subst e
                  exact stepG_end
                · obtain ⟨k', rfl⟩ := hout
                  exact stepG_ret'
              exact idle_real (hJ σ') rfl hstep fun w₁ hk₁ => hJ' w₁ (H'.keeps hk₁)
            refine hway fun w₁ H₁ => ?_
            rw [← Nat.add_assoc]
            refine g4 (tm := st.tm) H₁ ha' fun σ₂ ρ₂ w₂ hle₂ hold₂ H₂ ha₂ => ?_
            cases σ₂ with
            | wrk => trivial
            | grp gr =>
              obtain ⟨_, _, _, wa, k1, _⟩ := H₂.grp
              rw [hwg] at k1; cases k1
            | idle =>
              refine .inr fun w₃ hk₃ _ => ?_
              have H₃ := H₂.keeps hk₃
              obtain ⟨v', w₄, hrun, ⟨hv, hw₄⟩, _, hev⟩ := okS_sound (P := Tryz.prog) (R := permOf ρ₂ m') (N := w₃.heap.size) (Q := fun v' w' => VRel ρ₂ v v' ∧ w' = w₃) (Nat.le_refl _)
                (results_okS (N := w₃.heap.size) H₃.sim (a := ⟨a'.tmps, []⟩) ha₂ hres fun v' hv => ⟨hv, rfl⟩)
              rw [hw₄] at hrun
              obtain ⟨evs, hevs, hok⟩ := hev #[]
              have hlist : ∀ e ∈ seen Tryz.prog bb.fn ((results fn a'.tmps).events Tryz.prog w₃ #[]), EvOK (permOf ρ₂ m') e := fun e hx => hok e (by have := mem_seen hx; rw [hevs] at this; simpa using this)
              exact .ends rfl (stepG_endC (a := ⟨a'.tmps, []⟩) hbk rfl (by rw [hbf]; exact hf) hrun (by rw [hbf]; exact hini)) (fun e he => (hlist e he).or) hdf (hn ρ₂ v' w₃ H₃ hv)
          · cases h
    · cases htm
end
end Go.AM
