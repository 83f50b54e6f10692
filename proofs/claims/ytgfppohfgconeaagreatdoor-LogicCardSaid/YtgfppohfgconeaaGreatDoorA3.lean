/-
  THE ABSTRACT STEP AGAINST THE MODEL's GOROUTINE, whoever runs beside it. 'Judge': what is to be shown of a goroutine, step by step. 'Hold': the world holds the memory, and the rest of the account stands.
-/
import Derived.Test.YtgfppohfgconeaaGreatDoorA2
import Derived.Conc.DeferLaws
import Derived.Conc.Own5
import Derived.Conc.QuitsD
import Derived.Orders
set_option linter.unusedVariables false
set_option linter.unusedSimpArgs false
namespace Go.AM
open Go Go.Conc

def Perm.or (R E : Perm) : Perm := ⟨fun b o => R.rd b o ∨ E.rd b o, fun b o => R.wr b o ∨ E.wr b o, fun b => R.ob b ∨ E.ob b, R.deaf⟩
/-- What it names stands. -/
structure Low (R : Perm) (w : World) : Prop where
  rd : ∀ b o, R.rd b o → b < w.heap.size
  wr : ∀ b o, R.wr b o → R.rd b o
  ob : ∀ b, R.ob b → b < w.heap.size ∧ w.shape? b = none
theorem Low.keeps {R R' : Perm} {w w₁ : World} (h : Low R w) (k : Keeps R' w w₁) : Low R w₁ :=
  ⟨fun b o x => Nat.lt_of_lt_of_le (h.rd b o x) k.size, h.wr, fun b x => ⟨Nat.lt_of_lt_of_le (h.ob b x).1 k.size, by rw [k.shape b (h.ob b x).1]; exact (h.ob b x).2⟩⟩
theorem Keeps.sub {R R' : Perm} {w w₁ : World} (h : Keeps R w w₁) (hr : ∀ b o, R'.rd b o → R.rd b o) (ho : ∀ b, R'.ob b → R.ob b) : Keeps R' w w₁ :=
  ⟨h.tape, h.os, h.output, h.size, h.shape, fun b o x => h.cell b o (hr b o x), h.froz, fun b x => h.obj b (ho b x)⟩
theorem Keeps.left {R E : Perm} {w w₁ : World} (h : Keeps (R.or E) w w₁) : Keeps R w w₁ := h.sub (fun _ _ => .inl) fun _ => .inl
theorem Keeps.right {R E : Perm} {w w₁ : World} (h : Keeps (R.or E) w w₁) : Keeps E w w₁ := h.sub (fun _ _ => .inr) fun _ => .inr

/-- What a goroutine may list: what it may touch; that it turns deaf, that it hears again. -/
def EvW (R : Perm) (e : Event) : Prop := EvOK R e ∨ e.loc = .mark .disable ∨ e.loc = .mark .enable
structure Stepped (P : Program) (main : Bool) (R : Perm) (g : Goroutine) (w : World) (R' : Perm) (g' : Goroutine) (w' : World) (es : Array Event) : Prop where
  step : stepG P main g w = .go g' w' es
  chg : Chg R w.heap.size w w'
  ev : ∀ e ∈ es, EvW R e
  within : Within R R' w.heap.size
  deaf : R'.deaf = deafBehind R.deaf es
  low : Low R w → Low R' w'
structure Judge (P : Program) (main : Bool) (J : Nat → Perm → Goroutine → World → Prop) : Prop where
  mono : ∀ {n : Nat} {R : Perm} {g : Goroutine} {w : World}, J n R g w → J (n + 1) R g w
  step : ∀ {n : Nat} {R : Perm} {g : Goroutine} {w : World}, g.status = .running → (∀ w₁, Keeps R w w₁ → ∃ g' w' es R', Stepped P main R g w₁ R' g' w' es ∧ J n R' g' w') → J (n + 1) R g w
theorem Judge.le {P : Program} {main : Bool} {J : Nat → Perm → Goroutine → World → Prop} (h : Judge P main J) {n m : Nat} (hn : n ≤ m) {R : Perm} {g : Goroutine} {w : World} (hj : J n R g w) : J m R g w := by
  induction hn with
  | refl => exact hj
  | step _ ih => exact h.mono ih

theorem deafBehind_none (d : Nat) : ∀ (l : List Event), (∀ e ∈ l, e.loc ≠ .mark .disable ∧ e.loc ≠ .mark .enable) → deafBehind d l.toArray = d := by
  intro l h
  unfold deafBehind
  simp only [List.foldl_toArray]
  induction l with
  | nil => rfl
  | cons e l ih =>
    have h1 := h e (by simp)
    simp only [List.foldl_cons]
    refine Eq.trans (congrArg (fun x => List.foldl _ x l) ?_) (ih fun x hx => h x (by simp [hx]))
    split
    · rename_i hh; exact absurd hh h1.1
    · rename_i hh; exact absurd hh h1.2
    · rfl
theorem EvOK.loc {R : Perm} {e : Event} (h : EvOK R e) : e.loc ≠ .mark .disable ∧ e.loc ≠ .mark .enable := by
  constructor <;> intro hl <;> unfold EvOK at h <;> rw [hl] at h <;> exact h
theorem deafBehind_ok {R : Perm} {es : Array Event} (h : ∀ e ∈ es, EvOK R e) (d : Nat) : deafBehind d es = d := by
  have := deafBehind_none d es.toList fun e he => (h e (by simpa using he)).loc
  simpa using this

/-- The rest of an account stands, and is apart from what is at work. -/
structure Apart (E R : Perm) (w : World) : Prop where
  cell : ∀ b o, E.rd b o → b < w.heap.size ∧ ¬ R.wr b o
  obj : ∀ b, E.ob b → b < w.heap.size ∧ ¬ R.ob b ∧ w.shape? b = none
  wf : ∀ b o, E.wr b o → E.rd b o
theorem Apart.within {E R R' : Perm} {w w' : World} (h : Apart E R w) (k : Within R R' w.heap.size) (hs : w.heap.size ≤ w'.heap.size) (hsh : ∀ b, b < w.heap.size → w'.shape? b = w.shape? b) : Apart E R' w' :=
  ⟨fun b o he => ⟨Nat.lt_of_lt_of_le (h.cell b o he).1 hs, fun hw => (k.wr b o hw).elim (h.cell b o he).2 fun hn => absurd (h.cell b o he).1 (by omega)⟩,
   fun b he => ⟨Nat.lt_of_lt_of_le (h.obj b he).1 hs, fun hw => (k.ob b hw).elim (h.obj b he).2.1 fun hn => absurd (h.obj b he).1 (by omega), by rw [hsh b (h.obj b he).1]; exact (h.obj b he).2.2⟩, h.wf⟩
theorem Apart.stands {E R : Perm} {w w' : World} (h : Apart E R w) (c : Chg R w.heap.size w w') : Keeps E w w' :=
  ⟨c.tape, c.os, c.output, c.size, fun b hb => c.shape b hb, fun b o he => c.cell b o (h.cell b o he).1 (h.cell b o he).2, fun b o hb => c.froz b o hb, fun b he => c.obj b (h.obj b he).1 (h.obj b he).2.1 (h.obj b he).2.2⟩
/-- .. apart even from what will be ours where all are joined. -/
def ApC (E : Perm) (ρ : Ren) (m : Mem) : Prop := ∀ b p x, ρ b = some p → m.base ≤ b → p.d ≤ x → x < p.d + p.room → m.okR b (x - p.d) → ¬ E.rd p.c x
theorem okR_back {m m' : Mem} (hf : Fr m m') (hw : Wf m) {b o : Nat} (hb : b < m.next) (h : m'.okR b o) : m.okR b o := by
  obtain ⟨h1, h2, h3⟩ := h
  have hh : covers m.hid b o = false := by rw [← hf.hid]; exact h2
  have live : o < (m.blk b).cs.length → ∃ v, (m.blk b).cs[o]? = some (some v) := fun ho => by
    have e := List.getElem?_eq_getElem ho
    cases hv : (m.blk b).cs[o] with
    | none => exact absurd hv ((hw.live b).1 _ (List.getElem_mem ho))
    | some v => exact ⟨v, by rw [e, hv]⟩
  rcases hf.blk b with e | ⟨_, h4 | ⟨_, _, _, h4⟩ | ⟨_, _, h4, h5⟩ | ⟨_, h4, _⟩⟩
  · rw [e] at h1; exact ⟨h1, hh, live⟩
  · omega
  · rw [h4] at h1; cases h1
  · rw [h5] at h1; exact absurd h1 h4
  · exact ⟨h4, hh, live⟩
theorem ApC.step {E : Perm} {ρ ρ' : Ren} {m m' : Mem} {w : World} (h : ApC E ρ m) (hw : Wf m) (ha : Apart E (permOf ρ m) w) (hf : Fr m m') (hold : ∀ b, b < m.next → ρ' b = ρ b) (hwi : Within (permOf ρ m) (permOf ρ' m') w.heap.size) : ApC E ρ' m' := by
  intro b p x hp hb h1 h2 h3 he
  by_cases hlt : b < m.next
  · rw [hold b hlt] at hp
    exact h b p x hp (by rw [← hf.base]; exact hb) h1 h2 (okR_back hf hw hlt h3) he
  · rcases hwi.wr p.c x ⟨b, p, hp, rfl, h1, h2, h3, .inl (by rw [hf.floor]; have := hw.fl; omega)⟩ with g | g
    · exact (ha.cell _ _ he).2 g
    · have := (ha.cell _ _ he).1; omega
structure Hold (P : Program) (E : Perm) (w₀ : World) (σ : GSt) (ρ : Ren) (m : Mem) (w : World) : Prop where
  sim : Sim ρ m w
  rest : Keeps E w₀ w
  apart : Apart E (permOf ρ m) w
  glob : ∀ g, g < P.globals.size → ∃ p, ρ g = some p ∧ p.c = g ∧ p.d = 0
  grp : GOk σ ρ m
  wf : Wf m
  apc : ApC E ρ m
  ew : ∀ b o, E.wr b o → ¬ (permOf ρ m).rd b o
theorem Sim.low {ρ : Ren} {m : Mem} {w : World} (h : Sim ρ m w) : Low (permOf ρ m) w := by
  refine ⟨fun b o hr => ?_, fun b o hr => permOf_wr_rd hr, fun b hr => ?_⟩
  · obtain ⟨x, p, h1, rfl, _⟩ := hr
    exact h.inw x p h1
  · obtain ⟨x, p, h1, rfl, h2, h3⟩ := hr
    refine ⟨h.inw x p h1, ?_⟩
    rcases h2 with h2 | h2
    · obtain ⟨es, h4, _⟩ := h.maps x p h1 h2 h3
      unfold World.shape?; rw [h4]
    · obtain ⟨_, h4⟩ := h.iters x p h1 h2 h3
      unfold World.shape?; rw [h4]
section
variable {P : Program} {E : Perm} {w₀ : World} {σ : GSt} {ρ : Ren} {m : Mem} {w : World}
theorem low_or (h : Sim ρ m w) (a : Apart E (permOf ρ m) w) : Low ((permOf ρ m).or E) w :=
  ⟨fun b o x => x.elim (h.low.rd b o) fun y => (a.cell b o y).1, fun b o x => x.elim (fun y => .inl (h.low.wr b o y)) fun y => .inr (a.wf b o y), fun b x => x.elim (h.low.ob b) fun y => ⟨(a.obj b y).1, (a.obj b y).2.2⟩⟩
theorem Hold.low (h : Hold P E w₀ σ ρ m w) : Low ((permOf ρ m).or E) w := low_or h.sim h.apart
theorem Hold.keeps {w₁ : World} (h : Hold P E w₀ σ ρ m w) (k : Keeps ((permOf ρ m).or E) w w₁) : Hold P E w₀ σ ρ m w₁ :=
  ⟨h.sim.keeps k.left, h.rest.trans k.right, h.apart.within (Within.refl _ _) k.size k.shape, h.glob, h.grp, h.wf, h.apc, h.ew⟩
theorem Hold.left {ρ' : Ren} {m' : Mem} {w' : World} (h : Hold P E w₀ σ ρ m w) (l : Left ρ m w ρ' m' w') (f : FrD m m') (c : Chg (permOf ρ m) w.heap.size w w') : Hold P E w₀ σ ρ' m' w' :=
  ⟨l.sim, h.rest.trans (h.apart.stands c), h.apart.within l.within c.size c.shape, fun g hg => let ⟨p, h1, h2⟩ := h.glob g hg; ⟨p, l.le _ _ h1, h2⟩, h.grp.fr f.1 l.le l.old, f.2.2 h.wf, h.apc.step h.wf h.apart f.1 l.old l.within,
    fun b o he hr => (l.within.rd b o hr).elim (h.ew b o he) fun hN => by have := (h.apart.cell b o (h.apart.wf b o he)).1; omega⟩
theorem Within.or {R R' E : Perm} {N : Nat} (h : Within R R' N) : Within (R.or E) (R'.or E) N :=
  ⟨fun b o x => x.elim (fun y => (h.rd b o y).imp .inl id) fun y => .inl (.inr y), fun b o x => x.elim (fun y => (h.wr b o y).imp .inl id) fun y => .inl (.inr y), fun b x => x.elim (fun y => (h.ob b y).imp .inl id) fun y => .inl (.inr y)⟩
theorem Chg.or {R E : Perm} {N : Nat} {w w' : World} (h : Chg R N w w') : Chg (R.or E) N w w' :=
  ⟨h.tape, h.os, h.output, h.size, h.shape, fun b o hb hw => h.cell b o hb fun x => hw (.inl x), h.froz, fun b hb ho => h.obj b hb fun x => ho (.inl x)⟩
theorem EvOK.or {R E : Perm} {e : Event} (h : EvOK R e) : EvOK (R.or E) e := by
  unfold EvOK at h ⊢
  split at h
  · refine ⟨h.1, ?_⟩
    split
    · rename_i hw; have := h.2; rw [if_pos hw] at this; exact .inl this
    · rename_i hw; have := h.2; rw [if_neg hw] at this; exact .inl this
  · exact ⟨.inl h.1, h.2⟩
  · exact h
  · exact h

/-- One step of the goroutine's own that turns neither world nor memory. -/
theorem idle_real {main : Bool} {J : Nat → Perm → Goroutine → World → Prop} (hJ : Judge P main J) {R : Perm} {g g' : Goroutine} {n : Nat} (hr : g.status = .running) (hs : ∀ w, stepG P main g w = .go g' w #[])
    (h : ∀ w₁, Keeps R w w₁ → J n R g' w₁) : J (n + 1) R g w :=
  hJ.step hr fun w₁ hk => ⟨g', w₁, #[], R, ⟨hs w₁, Chg.refl _ _ _, fun e he => by simp at he, Within.refl _ _, rfl, id⟩, h w₁ hk⟩

variable {main : Bool} {J : Nat → Perm → Goroutine → World → Prop} {b : Frame} {a : Act} {k : List Item} {cs : List Frame} {ops : Array Oper} {i : Nat} {rest : List Nat} {o : Oper}
/-- An operation that is no call. -/
theorem op_real (hJ : Judge P main J) (ho : ops[i]? = some o) (hw : Region.wanted o (yielded ops a.tmps) = true) (hk : b.kind ≠ .early) (H : Hold P E w₀ σ ρ m w) {ev : Operand → Value}
    (hev : ∀ x ∈ o.op.operands, VRel ρ (ev x) (a.eval x)) {v : Value} {m' : Mem} (hop : opA P ev o m = some (v, m')) {l : Nat}
    (hn : ∀ ρ' v' w', ρ.le ρ' → (∀ b, b < m.next → ρ' b = ρ b) → Hold P E w₀ σ ρ' m' w' → VRel ρ' v v' → J l ((permOf ρ' m').or E) (G (b.at (a.put o.dst v') (.inRegion ops rest :: k)) cs) w') :
    J (l + 1) ((permOf ρ m).or E) (G (b.at a (.inRegion ops (i :: rest) :: k)) cs) w := by
  refine hJ.step rfl fun w₁ hk₁ => ?_
  have H₁ := H.keeps hk₁
  have hfr := opA_fr hop
  obtain ⟨nx, w', hrun, ⟨ρ', hL, v', hv, hy⟩, hc, he⟩ := okS_sound (Nat.le_refl _) (opA_sound H₁.sim (Nat.le_refl _) hev hop)
  obtain ⟨evs, hevs, hok⟩ := he #[]
  have hlist : ∀ e ∈ listed P b.fn a o w₁, EvOK (permOf ρ m) e := fun e hx => hok e (by have := mem_listed hx; rw [hevs] at this; simpa using this)
  have hH := H₁.left hL hfr hc
  have hnext := hn ρ' v' w' hL.le hL.old hH hv
  have hst : ∀ g', stepG P main (G (b.at a (.inRegion ops (i :: rest) :: k)) cs) w₁ = .go g' w' (listed P b.fn a o w₁) →
      Stepped P main ((permOf ρ m).or E) (G (b.at a (.inRegion ops (i :: rest) :: k)) cs) w₁ ((permOf ρ' m').or E) g' w' (listed P b.fn a o w₁) := fun g' hs =>
    ⟨hs, hc.or, fun e hx => .inl (hlist e hx).or, hL.within.or, by
      show m'.deaf = deafBehind m.deaf _
      rw [deafBehind_ok hlist, hfr.2.1], fun _ => hH.low⟩
  rcases hy with rfl | ⟨rfl, rfl, rfl⟩
  · exact ⟨_, w', _, _, hst _ (stepG_value ho hw hk hrun), hnext⟩
  · exact ⟨_, w', _, _, hst _ (stepG_none ho hw hk hrun), hnext⟩
/-- An operation that its guard bars. -/
theorem unwanted_real (hJ : Judge P main J) (ho : ops[i]? = some o) (hw : Region.wanted o (yielded ops a.tmps) = false) {R : Perm} {l : Nat}
    (hn : ∀ w₁, Keeps R w w₁ → J l R (G (b.at (a.put o.dst undef) (.inRegion ops rest :: k)) cs) w₁) : J (l + 1) R (G (b.at a (.inRegion ops (i :: rest) :: k)) cs) w :=
  idle_real hJ rfl (fun w => stepG_unwanted ho hw) hn
end
end Go.AM
/-
  CALLS: of functions with a body, as an operation makes them; of the few without one that are met.
-/
set_option linter.unusedVariables false
set_option linter.unusedSimpArgs false
namespace Go.AM
open Go Go.Conc

/-- Function f has no body; the model's entry for it is e. -/
def ExtIs (P : Program) (f : Nat) (e : Array Value → Sem Value) : Prop :=
  ∃ fn, P.funcs[f]? = some fn ∧ fn.body.isNone = true ∧ (fn.name == "runtime.NumGoroutine") = false ∧ Extern.findNext fn = none ∧ Extern.find fn = some e
structure Fine (P : Program) (X : Ext) : Prop where
  names : ∀ (f : Nat) (fn : Func), P.funcs[f]? = some fn → fn.body.isSome = true → (fn.name == "runtime.NumGoroutine") = false
  mixed : P.follows .mixedOrders = true
  disable : ExtIs P X.disable fun _ => do mark .disable; pure Extern.Race.none_
  enable : ExtIs P X.enable fun _ => do mark .enable; pure Extern.Race.none_
  acquire : ExtIs P X.acquire (Extern.Race.marked .acquire)
  relMerge : ExtIs P X.relMerge (Extern.Race.marked .releaseMerge)
  cas32 : ExtIs P X.cas32 (Extern.Atomic.casT (.int .i32))
  add32 : ExtIs P X.add32 (Extern.Atomic.update (Op.intArith .add) .i32 true)

section
variable {P : Program} {X : Ext} {ρ : Ren} {m m' : Mem} {w : World} {N : Nat} {v : Value}
theorem okS_callFunc_ext {R : Perm} {f : Nat} {e : Array Value → Sem Value} (h : ExtIs P f e) {args : Array Value} {Q : Next → World → Prop} (hq : okS P R N (e args) (fun v w => Q (.value v) w) w) : okS P R N (callFunc f args) Q w := by
  obtain ⟨fn, hf, hb, hname, hn, he⟩ := h
  unfold callFunc
  rw [okS_bind]
  show okS P R N _ Q w
  rw [hf]
  simp only []
  rw [if_neg (by rw [hname]; simp), if_pos hb, okS_bind]
  refine ⟨trivial, ?_⟩
  simp only [hn, he]
  show okS P R N (e args >>= fun v => pure (Next.value v)) Q w
  rw [okS_bind]
  exact hq
theorem okS_callFunc_body {R : Perm} {f : Nat} {fn : Func} (hf : P.funcs[f]? = some fn) (hb : fn.body.isSome = true) (hname : (fn.name == "runtime.NumGoroutine") = false) {args : Array Value} {Q : Next → World → Prop} (hq : Q (.enter f args) w) : okS P R N (callFunc f args) Q w := by
  unfold callFunc
  rw [okS_bind]
  show okS P R N _ Q w
  rw [hf]
  simp only []
  rw [if_neg (by rw [hname]; simp), if_neg (by cases hx : fn.body <;> simp_all)]
  exact hq

theorem Sim.deaf (h : Sim ρ m w) (d : Nat) : Sim ρ { m with deaf := d } w := ⟨h.dom, h.cells, h.vals, h.thaw, h.maps, h.iters, h.sep, h.inw, h.vars⟩
theorem args1 {l : List Value} {x : Value} {l' : List Value} (h : l = [x]) (hr : Rel2 (VRel ρ) l l') : ∃ x', l' = [x'] ∧ VRel ρ x x' := by
  subst h
  match l', hr with
  | [x'], hr => exact ⟨x', rfl, hr.1⟩
theorem store1_okS (hs : Sim ρ m w) {b o : Nat} {p : Pl} (hpl : ρ b = some p) {x x' : Value} {m₂ : Mem} (h : m.stores b o [x] = some m₂) (hx : VRel ρ x x') {md : Mode} {Q : Unit → World → Prop} (hq : ∀ w', Left ρ m w ρ m₂ w' → Q () w') :
    okS P (permOf ρ m) N (Go.store ⟨p.c, p.d + o, none⟩ x' md) Q w := by
  have hso := stores_okS (P := P) (N := N) hs hpl h (vs' := [x']) ⟨hx, trivial⟩ (Q := Q) fun w' hL _ => hq w' hL
  simp only [storeCells] at hso
  rw [okS_bind, addr_add, Nat.add_zero] at hso
  exact hso
theorem read_okS (hs : Sim ρ m w) {b o : Nat} {p : Pl} (hpl : ρ b = some p) {u : Int} (hl : m.loads b o 1 = some [.int .i32 u]) {Q : Value → World → Prop} (hQ : Q (.int .i32 u) w) : okS P (permOf ρ m) N (Extern.Atomic.read (.int .i32) ⟨p.c, p.d + o, none⟩) Q w := by
  obtain ⟨z, z', g1, g2, g3, g4⟩ := hs.load1 hpl hl (show 0 < 1 by omega)
  simp only [List.getElem?_cons_zero, Option.some.injEq] at g1
  subst g1
  obtain rfl := (vrel_same (by rfl)).1 g2
  unfold Extern.Atomic.read
  rw [okS_bind]
  exact okS_load g3 g4 hQ
theorem cell_of_loads {b o : Nat} {x : Value} (hl : m.loads b o 1 = some [x]) : m.cell b o = some x := by
  obtain ⟨_, _, g⟩ := Mem.loads_spec hl
  obtain ⟨z, g1, g2⟩ := g 0 (by omega)
  simp only [List.getElem?_cons_zero, Option.some.injEq] at g1
  subst g1; exact g2
theorem frozen_okS (hs : Sim ρ m w) {b o : Nat} {p : Pl} (hpl : ρ b = some p) {x : Value} (hl : m.loads b o 1 = some [x]) {Q : Bool → World → Prop} (hQ : Q (w.frozen? ⟨p.c, p.d + o, none⟩) w) :
    okS P (permOf ρ m) N (Extern.Atomic.touchesFrozen ⟨p.c, p.d + o, none⟩) Q w := by
  obtain ⟨_, _, e, n, hsh, _⟩ := hs.cells b p hpl (Mem.okR_of_cell (cell_of_loads hl)).1
  unfold Extern.Atomic.touchesFrozen viewAt
  rw [okS_bind, okS_bind]
  refine okS_shape hsh ?_
  exact hQ
/-- What the entries of sync/atomic and internal/race do that are met here. -/
theorem ext_okS (hs : Sim ρ m w) (hX : Fine P X) {f : Nat} {args : List Value} {args' : Array Value} (hr : Rel2 (VRel ρ) args args'.toList) (h : extA X f args m = some (v, m')) (h1 : f ≠ X.disable) (h2 : f ≠ X.enable) :
    FrD m m' ∧ ∃ e, ExtIs P f e ∧ ∀ {Q : Value → World → Prop}, (∀ w', Left ρ m w ρ m' w' → VRel ρ v v → Q v w') → okS P (permOf ρ m) N (e args') Q w := by
  unfold extA at h
  rw [if_neg h1, if_neg h2] at h
  split at h
  · rename_i hf
    subst hf
    split at h
    · rename_i b o
      simp only [Option.some.injEq, Prod.mk.injEq] at h
      obtain ⟨rfl, rfl⟩ := h
      refine ⟨FrD.refl _, _, hX.acquire, fun hq => ?_⟩
      obtain ⟨x', hx, hxr⟩ := args1 rfl hr
      obtain ⟨p, hp, _, rfl⟩ := vrel_ptr.1 hxr
      have : args' = #[.pointer (some ⟨p.c, p.d + o, none⟩)] := by apply Array.ext'; simpa using hx
      subst this
      exact ⟨trivial, hq _ (Left.refl hs) vrel_unit⟩
    · cases h
  · split at h
    · rename_i hf
      subst hf
      split at h
      · rename_i b o
        simp only [Option.some.injEq, Prod.mk.injEq] at h
        obtain ⟨rfl, rfl⟩ := h
        refine ⟨FrD.refl _, _, hX.relMerge, fun hq => ?_⟩
        obtain ⟨x', hx, hxr⟩ := args1 rfl hr
        obtain ⟨p, hp, _, rfl⟩ := vrel_ptr.1 hxr
        have : args' = #[.pointer (some ⟨p.c, p.d + o, none⟩)] := by apply Array.ext'; simpa using hx
        subst this
        exact ⟨trivial, hq _ (Left.refl hs) vrel_unit⟩
      · cases h
    · split at h
      · rename_i hf
        subst hf
        split at h
        · rename_i b o x y
          match args', hr with
          | ⟨[p', x', y']⟩, hr =>
            obtain ⟨hp, hx, hy, _⟩ := hr
            obtain ⟨p, hpl, _, rfl⟩ := vrel_ptr.1 hp
            obtain rfl := (vrel_same (by rfl)).1 hx
            obtain rfl := (vrel_same (by rfl)).1 hy
            split at h
            · rename_i u hl
              have hfr : w.frozen? ⟨p.c, p.d + o, none⟩ = false → ∀ {Q : Value → World → Prop}, okS P (permOf ρ m) N (if (u == x) = true then (do Go.store ⟨p.c, p.d + o, none⟩ (.int .i32 y) .atomic; pure (Value.bool (u == x))) else pure (Value.bool (u == x))) Q w →
                  okS P (permOf ρ m) N (Extern.Atomic.casT (.int .i32) #[.pointer (some ⟨p.c, p.d + o, none⟩), .int .i32 x, .int .i32 y]) Q w := by
                intro hz Q hQ
                refine (okS_bind (asAddr (.pointer (some ⟨p.c, p.d + o, none⟩))) _ _ _).2 ?_
                refine (okS_bind (Extern.Atomic.touchesFrozen ⟨p.c, p.d + o, none⟩) _ _ _).2 ?_
                refine frozen_okS hs hpl hl ?_
                rw [hz]
                refine (okS_bind (Extern.Atomic.read (.int .i32) ⟨p.c, p.d + o, none⟩) _ _ _).2 ?_
                refine read_okS hs hpl hl ?_
                show okS P (permOf ρ m) N (if (u == x) = true then (do Go.store ⟨p.c, p.d + o, none⟩ (.int .i32 y) .atomic; pure (Value.bool (u == x))) else pure (Value.bool (u == x))) Q w
                by_cases hux : (u == x) = true
                · rw [if_pos hux] at hQ ⊢; exact hQ
                · rw [if_neg hux] at hQ ⊢; exact hQ
              split at h
              · rename_i hux
                obtain ⟨m2, hm2, he⟩ := Option.map_eq_some_iff.1 h
                simp only [Prod.mk.injEq] at he
                obtain ⟨rfl, rfl⟩ := he
                refine ⟨FrD.stores hm2, _, hX.cas32, fun hq => ?_⟩
                have hz : w.frozen? ⟨p.c, p.d + o, none⟩ = false := by
                  obtain ⟨cs, _, _, hmay, _⟩ := Mem.stores_spec hm2
                  exact hs.thaw b p o hpl (room_of_cell hs hpl (cell_of_loads hl)) (Mem.okR_of_cell (cell_of_loads hl)).1 (Mem.mayWrite_base hmay)
                refine hfr hz ?_
                have hux' : (u == x) = true := by simpa using hux
                rw [if_pos hux', hux', okS_bind]
                exact store1_okS hs hpl hm2 (plain_vrel rfl) fun w' hL => hq w' hL (plain_vrel rfl)
              · rename_i hux
                split at h
                · rename_i hbb
                  simp only [Option.some.injEq, Prod.mk.injEq] at h
                  obtain ⟨rfl, rfl⟩ := h
                  refine ⟨FrD.refl _, _, hX.cas32, fun hq => ?_⟩
                  have hz : w.frozen? ⟨p.c, p.d + o, none⟩ = false := hs.thaw b p o hpl (room_of_cell hs hpl (cell_of_loads hl)) (Mem.okR_of_cell (cell_of_loads hl)).1 hbb
                  refine hfr hz ?_
                  have hux' : (u == x) = false := by simpa using hux
                  rw [hux']
                  simp only [Bool.false_eq_true, if_false]
                  exact hq _ (Left.refl hs) (plain_vrel rfl)
                · cases h
            · cases h
        · cases h
      · split at h
        · rename_i hf
          subst hf
          split at h
          · rename_i b o y
            match args', hr with
            | ⟨[p', y']⟩, hr =>
              obtain ⟨hp, hy, _⟩ := hr
              obtain ⟨p, hpl, _, rfl⟩ := vrel_ptr.1 hp
              obtain rfl := (vrel_same (by rfl)).1 hy
              split at h
              · rename_i u hl
                obtain ⟨m2, hm2, he⟩ := Option.map_eq_some_iff.1 h
                simp only [Prod.mk.injEq] at he
                obtain ⟨rfl, rfl⟩ := he
                refine ⟨FrD.stores hm2, _, hX.add32, fun hq => ?_⟩
                refine (okS_bind (asAddr (.pointer (some ⟨p.c, p.d + o, none⟩))) _ _ _).2 ?_
                refine (okS_bind (Extern.Atomic.read (.int .i32) ⟨p.c, p.d + o, none⟩) _ _ _).2 ?_
                refine read_okS hs hpl hl ?_
                show okS P (permOf ρ m) N (do Go.store ⟨p.c, p.d + o, none⟩ (.int .i32 (IntKind.i32.wrap (u + y))) .atomic; pure (Value.int .i32 (IntKind.i32.wrap (u + y)))) _ w
                rw [okS_bind]
                exact store1_okS hs hpl hm2 (plain_vrel rfl) fun w' hL => hq w' hL (plain_vrel rfl)
              · cases h
          · cases h
        · cases h
end
end Go.AM
/-
  ONE OPERATION OF A GOROUTINE, be it a call, a deferred call or none: 'does_real'. 'CallOk': what is asked of the calls that are made on the way.
-/
set_option linter.unusedVariables false
set_option linter.unusedSimpArgs false
namespace Go.AM
open Go Go.Conc

/-- Memory goes on: stamps tell what has turned. -/
structure Mv (m m' : Mem) : Prop where
  next : m.next ≤ m'.next
  tick : m.tick ≤ m'.tick
  wf : Wf m → Wf m'
  blk : ∀ b, m'.blk b = m.blk b ∨ m.tick ≤ (m'.blk b).stamp
  pend : ∀ s ∈ m'.pend, s ∈ m.pend ∨ m.next ≤ s.lo
/-- The old blocks stay where they lie, but for those of goroutines that are still to be joined. -/
def OldR (m : Mem) (ρ ρ' : Ren) : Prop := ∀ b, b < m.next → (∀ s ∈ m.pend, ¬ (s.lo ≤ b ∧ b < s.hi)) → ρ' b = ρ b
theorem OldR.of {m : Mem} {ρ ρ' : Ren} (h : ∀ b, b < m.next → ρ' b = ρ b) : OldR m ρ ρ' := fun b hb _ => h b hb
theorem OldR.trans {m m₁ : Mem} {ρ ρ₁ ρ₂ : Ren} (hm : Mv m m₁) (h : OldR m ρ ρ₁) (k : OldR m₁ ρ₁ ρ₂) : OldR m ρ ρ₂ := fun b hb hf => (k b (Nat.lt_of_lt_of_le hb hm.next) fun s hs => (hm.pend s hs).elim (hf s) fun h => by omega).trans (h b hb hf)
theorem Mv.refl (m : Mem) : Mv m m := ⟨Nat.le_refl _, Nat.le_refl _, id, fun _ => .inl rfl, fun _ => .inl⟩
theorem Mv.trans {m m₁ m₂ : Mem} (h : Mv m m₁) (k : Mv m₁ m₂) : Mv m m₂ :=
  ⟨Nat.le_trans h.next k.next, Nat.le_trans h.tick k.tick, k.wf ∘ h.wf, fun b => by
    rcases k.blk b with e | e
    · rw [e]; exact h.blk b
    · exact .inr (Nat.le_trans h.tick e), fun s hs => (k.pend s hs).elim (h.pend s) fun x => .inr (Nat.le_trans h.next x)⟩
def FrW (m m' : Mem) : Prop := Fr m m' ∧ (Wf m → Wf m')
theorem FrD.w {m m' : Mem} (h : FrD m m') : FrW m m' := ⟨h.1, h.2.2⟩
theorem FrW.refl (m : Mem) : FrW m m := ⟨Fr.refl m, id⟩
theorem FrW.trans {m m₁ m₂ : Mem} (h : FrW m m₁) (k : FrW m₁ m₂) : FrW m m₂ := ⟨h.1.trans k.1, k.2 ∘ h.2⟩
theorem FrW.mv {m m' : Mem} (h : FrW m m') : Mv m m' := ⟨h.1.next, h.1.tick, h.2, fun b => (h.1.blk b).imp id (·.1), fun s hs => .inl (by rw [← h.1.pend]; exact hs)⟩
theorem FrW.deaf (m : Mem) (d : Nat) : FrW m { m with deaf := d } := ⟨⟨rfl, Nat.le_refl _, Nat.le_refl _, fun _ => .inl rfl⟩, fun h => ⟨h.stamp, h.far, h.hid, h.fl, h.live⟩⟩
/-- What is told of memory before and behind. -/
structure FRel (F : Mem → Mem → Prop) : Prop where
  refl : ∀ m, F m m
  trans : ∀ {m m₁ m₂}, F m m₁ → F m₁ m₂ → F m m₂
  fr : ∀ {m m'}, FrW m m' → F m m'
  mv : ∀ {m m'}, F m m' → Mv m m'
theorem frel_frw : FRel FrW := ⟨FrW.refl, FrW.trans, id, FrW.mv⟩
theorem frel_mv : FRel Mv := ⟨Mv.refl, Mv.trans, FrW.mv, id⟩

def DRel (ρ : Ren) (d : Nat × List Value) (d' : Deferred) : Prop := ∃ cap, d'.target = .fn (.func d.1) cap ∧ Rel2 (VRel ρ) d.2 (d'.args ++ cap).toList
theorem DRel.ren {ρ ρ' : Ren} (h : ρ.le ρ') {d : Nat × List Value} {d' : Deferred} (hd : DRel ρ d d') : DRel ρ' d d' :=
  let ⟨cap, h1, h2⟩ := hd; ⟨cap, h1, h2.mono fun _ _ x => x.ren h⟩
abbrev JT := GSt → Nat → Perm → Goroutine → World → Prop
/-- What is asked of the calls on the way. -/
def CallOk (P : Program) (X : Ext) (main : Bool) (J : JT) (F : Mem → Mem → Prop) (call : CallT) : Prop :=
  ∀ f args m v m', Wf m → call f args m = some (v, m') → F m m' ∧ (bodied P f = false → extA X f args m = some (v, m')) ∧
    (bodied P f = true → ∃ c, ∀ {E : Perm} {w₀ : World} {σ : GSt} {ρ : Ren} {w : World} (args' : Array Value) (fr : Frame) (cs : List Frame) (n : Nat) (kind : CallKind),
      Hold P E w₀ σ ρ m w → Rel2 (VRel ρ) args args'.toList → (kind = .normal ∨ (kind = .deferred ∧ fr.mode = .returning ∧ f ≠ X.wgGo ∧ f ≠ X.wgWait)) →
      (∀ σ' ρ' v' w', ρ.le ρ' → OldR m ρ ρ' → Hold P E w₀ σ' ρ' m' w' → VRel ρ' v v' → J σ' n ((permOf ρ' m').or E) (G (if kind = .normal then fr.finish v' else fr) cs) w') →
      J σ (n + c) ((permOf ρ m).or E) (G (Frame.enter P f args' kind) (fr :: cs)) w)

section
variable {P : Program} {X : Ext} {main : Bool} {J : JT} {F : Mem → Mem → Prop} {call : CallT} {E : Perm} {w₀ : World} {σ : GSt} {ρ : Ren} {m m' : Mem} {w : World}
variable {b : Frame} {a : Act} {k : List Item} {cs : List Frame} {ops : Array Oper} {i : Nat} {rest : List Nat} {o : Oper}

theorem finish_op (ho : ops[i]? = some o) (v : Value) : (b.at a (.inRegion ops (i :: rest) :: k)).finish v = b.at (a.put o.dst v) (.inRegion ops rest :: k) := by rw [Frame.finish_at, ho]; rfl

/-- A step whose world is left as the memory says, and that lists what may be listed. -/
theorem step_own (hJ : ∀ σ, Judge P main (J σ)) (H : Hold P E w₀ σ ρ m w) {g : Goroutine} (hg : g.status = .running) {n : Nat}
    (h : ∀ w₁, Hold P E w₀ σ ρ m w₁ → ∃ g' ρ' m' w' es, stepG P main g w₁ = .go g' w' es ∧ Left ρ m w₁ ρ' m' w' ∧ Chg (permOf ρ m) w₁.heap.size w₁ w' ∧ (∀ e ∈ es, EvW (permOf ρ m) e) ∧ m'.deaf = deafBehind m.deaf es ∧
      J σ n ((permOf ρ' m').or E) g' w') : J σ (n + 1) ((permOf ρ m).or E) g w := by
  refine (hJ σ).step hg fun w₁ hk => ?_
  obtain ⟨g', ρ', m', w', es, h1, h2, h3, h4, h5, h6⟩ := h w₁ (H.keeps hk)
  have ha := (H.keeps hk).apart.within h2.within h3.size h3.shape
  exact ⟨g', w', es, _, ⟨h1, h3.or, fun e he => (h4 e he).imp EvOK.or id, h2.within.or, h5, fun _ => low_or h2.sim ha⟩, h6⟩

/-- The operation calls a function that has a body. -/
theorem calls_okS {R : Perm} {N : Nat} {ev : Operand → Value} (hX : Fine P X) {f : Nat} {args : List Value} (hc : CallsF P o ev f args) (hev : ∀ x ∈ o.op.operands, VRel ρ (ev x) (a.eval x))
    {Q : Next → World → Prop} (hq : ∀ args', Rel2 (VRel ρ) args args'.toList → okS P R N (callFunc f args') Q w) : okS P R N (execOp a.eval o) Q w := by
  rcases hc with ⟨x, as, ats, first, cap, ho, hx, rfl⟩ | ⟨r, name, as, ats, recv, ho, hm, rfl⟩
  · unfold execOp
    rw [ho]
    simp only []
    have hxm : x ∈ o.op.operands := by rw [ho]; simp [Op.operands, Call.operands]
    have hr := hev x hxm
    rw [hx] at hr
    obtain ⟨f', c', e, h1, h2⟩ := vrel_func.1 hr
    rw [okS_bind]
    have hres : resolve a.eval { callee := .value x, args := as, argTypes := ats } o.type = pure { target := .fn (.func f) c', args := f' ++ as.map a.eval } := by
      unfold resolve
      simp only [e, Deferred.ofValue]
    rw [hres]
    show okS P R N (callFunc f (f' ++ as.map a.eval ++ c')) Q w
    refine hq _ ?_
    simp only [Array.toList_append, Array.toList_map]
    refine (h1.append (Rel2.map_same fun y hy => hev y ?_)).append h2
    rw [ho]; simp only [Op.operands, Call.operands, Array.mem_append]
    exact .inr (by simpa using hy)
  · unfold execOp
    rw [ho]
    simp only []
    have hrm : r ∈ o.op.operands := by rw [ho]; simp [Op.operands, Call.operands]
    obtain ⟨t, u, u', it, mt, e, h1, h2, rfl, h4, h5, h6, h7, h8, h9⟩ := methodA_rel (hev r hrm) hm
    rw [okS_bind]
    have hres : resolve a.eval { callee := .invoke r name, args := as, argTypes := ats } o.type = pure { target := .fn (.method name) #[], args := #[.iface t u'] ++ as.map a.eval } := by
      unfold resolve
      simp only [h2]
    rw [hres]
    show okS P R N (invoke (.fn (.method name) #[]) (#[.iface t u'] ++ as.map a.eval)) Q w
    unfold invoke
    simp only []
    have e0 : (#[Value.iface t u'] ++ as.map a.eval)[0]? = some (.iface t u') := by rw [← Array.getElem?_toList]; simp
    rw [e0]
    simp only []
    unfold callMethod
    simp only []
    rw [okS_bind]
    show okS P R N (method (P.types.size + Made.depth) t u' name >>= _) Q w
    rw [okS_bind]
    have hdp : 0 < Made.depth := by decide
    obtain ⟨d, hd⟩ : ∃ d, P.types.size + Made.depth = d + 1 := ⟨P.types.size + Made.depth - 1, by omega⟩
    rw [hd]
    unfold method
    rw [okS_bind]
    refine okS_typeInfo h5 ?_
    rw [h7]
    simp only [h8, follow, pure_bind, h9]
    rw [okS_bind]
    unfold receiverAt
    rw [okS_bind]
    refine okS_underlying h6 ?_
    simp only [Place.get]
    show okS P R N (callFunc f _) Q w
    refine hq _ ?_
    have e1 : (#[u'] ++ (#[Value.iface t u'] ++ as.map a.eval).extract 1 (#[Value.iface t u'] ++ as.map a.eval).size).toList = u' :: as.toList.map a.eval := by
      simp only [Array.toList_append, Array.toList_extract, List.extract_eq_take_drop]
      simp
      exact List.take_of_length_le (by simp)
    rw [e1]
    refine ⟨h4, Rel2.map_same fun y hy => hev y ?_⟩
    rw [ho]; simp only [Op.operands, Call.operands, Array.mem_append]
    exact .inr (by simpa using hy)

theorem call_real (hJ : ∀ σ, Judge P main (J σ)) (hX : Fine P X) (ho : ops[i]? = some o) (hw : Region.wanted o (yielded ops a.tmps) = true) (hk : b.kind ≠ .early) (H : Hold P E w₀ σ ρ m w) {ev : Operand → Value}
    (hev : ∀ x ∈ o.op.operands, VRel ρ (ev x) (a.eval x)) {f : Nat} {args : List Value} (hc : CallsF P o ev f args) (hb : bodied P f = true) {n : Nat}
    (hn : ∀ w₁ args', Hold P E w₀ σ ρ m w₁ → Rel2 (VRel ρ) args args'.toList → J σ n ((permOf ρ m).or E) (G (Frame.enter P f args' .normal) (b.at a (.inRegion ops (i :: rest) :: k) :: cs)) w₁) :
    J σ (n + 1) ((permOf ρ m).or E) (G (b.at a (.inRegion ops (i :: rest) :: k)) cs) w := by
  refine step_own hJ H rfl fun w₁ H₁ => ?_
  obtain ⟨fn, hf, hbd⟩ : ∃ fn, P.funcs[f]? = some fn ∧ fn.body.isSome = true := by
    unfold bodied at hb
    cases hf : P.funcs[f]? with
    | none => rw [hf] at hb; simp at hb
    | some fn => exact ⟨fn, rfl, by rw [hf] at hb; simpa using hb⟩
  obtain ⟨nx, w', hrun, ⟨args', hr, rfl, hw'⟩, hc', he⟩ := okS_sound (P := P) (R := permOf ρ m) (N := w₁.heap.size) (Q := fun nx w' => ∃ args', Rel2 (VRel ρ) args args'.toList ∧ nx = .enter f args' ∧ w' = w₁) (Nat.le_refl _)
    (calls_okS (w := w₁) hX hc hev fun args' hr => okS_callFunc_body hf hbd (hX.names f fn hf hbd) ⟨args', hr, rfl, rfl⟩)
  rw [hw'] at hrun
  obtain ⟨evs, hevs, hok⟩ := he #[]
  have hlist : ∀ e ∈ listed P b.fn a o w₁, EvOK (permOf ρ m) e := fun e hx => hok e (by have := mem_listed hx; rw [hevs] at this; simpa using this)
  exact ⟨_, ρ, m, w₁, _, stepG_enter ho hw hk hrun, Left.refl H₁.sim, Chg.refl .., fun e he => .inl (hlist e he), (deafBehind_ok hlist _).symm, hn w₁ args' H₁ hr⟩

theorem bodied_spec {f : Nat} (hb : bodied P f = true) : ∃ fn, P.funcs[f]? = some fn ∧ fn.body.isSome = true := by
  unfold bodied at hb
  cases hf : P.funcs[f]? with
  | none => rw [hf] at hb; simp at hb
  | some fn => exact ⟨fn, rfl, by rw [hf] at hb; simpa using hb⟩
theorem calls_eq {ev : Operand → Value} {f : Nat} {args : List Value} (hc : CallsF P o ev f args) (hev : ∀ x ∈ o.op.operands, VRel ρ (ev x) (a.eval x)) (ha : args = []) :
    execOp a.eval o = callFunc f #[] := by
  rcases hc with ⟨x, as, ats, first, cap, ho, hx, rfl⟩ | ⟨r, name, as, ats, recv, ho, hm, rfl⟩
  · simp only [List.append_eq_nil_iff, Array.toList_eq_nil_iff, List.map_eq_nil_iff] at ha
    obtain ⟨⟨rfl, rfl⟩, rfl⟩ := ha
    have hxm : x ∈ o.op.operands := by rw [ho]; simp [Op.operands, Call.operands]
    have hr := hev x hxm
    rw [hx] at hr
    obtain ⟨f', c', e, h1, h2⟩ := vrel_func.1 hr
    have e1 : f' = #[] := by
      have := h1.length
      simpa [eq_comm] using this
    have e2 : c' = #[] := by
      have := h2.length
      simpa [eq_comm] using this
    subst e1 e2
    unfold execOp
    rw [ho]
    simp [resolve, Deferred.ofValue, e, invoke]
  · cases ha
/-- 'disable', 'enable'. -/
theorem word_step (mk : Mark) (hm : ∀ g, mk ≠ .extern g) (ho : ops[i]? = some o) (hw : Region.wanted o (yielded ops a.tmps) = true) (hk : b.kind ≠ .early) {f : Nat} (e1 : execOp a.eval o = callFunc f #[])
    (hf : ExtIs P f fun _ => do mark mk; pure Extern.Race.none_) (w : World) :
    stepG P main (G (b.at a (.inRegion ops (i :: rest) :: k)) cs) w = .go (G (b.at (a.put o.dst (.tuple #[])) (.inRegion ops rest :: k)) cs) w #[⟨.mark mk, false, true⟩] := by
  obtain ⟨fn, h1, h2, h3, h4, h5⟩ := hf
  rw [stepG_value (v := .tuple #[]) (w' := w) ho hw hk (by rw [e1, run_callFunc_extern h1 h3 h2 h4 h5]; simp [Extern.Race.none_])]
  unfold listed
  rw [e1, events_callFunc_extern h1 h3 h2 h4 h5]
  simp only [List.push_toArray, List.nil_append]
  rw [show ((do mark mk; pure Extern.Race.none_ : Sem Value)).events P w [⟨.mark (.extern f), false, true⟩].toArray = #[⟨.mark (.extern f), false, true⟩] ++ #[⟨.mark mk, false, true⟩] by simp]
  rw [seen_entry _ _ _ (by
    intro x hx
    simp at hx
    subst hx
    exact ⟨rfl, fun g h => hm g (by cases h; rfl)⟩)]
theorem Sim.deafH (H : Hold P E w₀ σ ρ m w) (d : Nat) : Hold P E w₀ σ ρ { m with deaf := d } w :=
  ⟨H.sim.deaf d, H.rest, ⟨H.apart.cell, H.apart.obj, H.apart.wf⟩, H.glob, H.grp.fr (FrW.deaf m d).1 (ρ.le_refl) (fun _ _ => rfl), ⟨H.wf.stamp, H.wf.far, H.wf.hid, H.wf.fl, H.wf.live⟩, H.apc, H.ew⟩

/-- The operation calls an entry of the model's. -/
theorem ext_real (hJ : ∀ σ, Judge P main (J σ)) (hX : Fine P X) (ho : ops[i]? = some o) (hw : Region.wanted o (yielded ops a.tmps) = true) (hk : b.kind ≠ .early) (H : Hold P E w₀ σ ρ m w) {ev : Operand → Value}
    (hev : ∀ x ∈ o.op.operands, VRel ρ (ev x) (a.eval x)) {f : Nat} {args : List Value} (hc : CallsF P o ev f args) {v : Value} (hx : extA X f args m = some (v, m')) {n : Nat}
    (hn : ∀ v' w' ρ', ρ.le ρ' → (∀ b, b < m.next → ρ' b = ρ b) → Hold P E w₀ σ ρ' m' w' → VRel ρ' v v' → J σ n ((permOf ρ' m').or E) (G (b.at (a.put o.dst v') (.inRegion ops rest :: k)) cs) w') :
    J σ (n + 1) ((permOf ρ m).or E) (G (b.at a (.inRegion ops (i :: rest) :: k)) cs) w := by
  by_cases h1 : f = X.disable
  · subst h1
    unfold extA at hx
    rw [if_pos rfl] at hx
    split at hx
    · simp only [Option.some.injEq, Prod.mk.injEq] at hx
      obtain ⟨rfl, rfl⟩ := hx
      have e1 := calls_eq hc hev rfl
      refine step_own hJ H rfl fun w₁ H₁ => ⟨_, ρ, _, w₁, _, word_step .disable (by simp) ho hw hk e1 hX.disable w₁, ?_, Chg.refl .., ?_, ?_, hn _ _ _ ρ.le_refl (fun _ _ => rfl) (Sim.deafH H₁ _) vrel_unit⟩
      · exact ⟨ρ.le_refl, H₁.sim.deaf _, ⟨fun _ _ x => .inl x, fun _ _ x => .inl x, fun _ x => .inl x⟩, fun _ _ => rfl⟩
      · intro e he
        simp only [List.mem_toArray, List.mem_cons, List.not_mem_nil, or_false] at he
        subst he
        exact .inr (.inl rfl)
      · rfl
    · cases hx
  · by_cases h2 : f = X.enable
    · subst h2
      unfold extA at hx
      rw [if_neg h1, if_pos rfl] at hx
      split at hx
      · simp only [Option.some.injEq, Prod.mk.injEq] at hx
        obtain ⟨rfl, rfl⟩ := hx
        have e1 := calls_eq hc hev rfl
        refine step_own hJ H rfl fun w₁ H₁ => ⟨_, ρ, _, w₁, _, word_step .enable (by simp) ho hw hk e1 hX.enable w₁, ?_, Chg.refl .., ?_, ?_, hn _ _ _ ρ.le_refl (fun _ _ => rfl) (Sim.deafH H₁ _) vrel_unit⟩
        · exact ⟨ρ.le_refl, H₁.sim.deaf _, ⟨fun _ _ x => .inl x, fun _ _ x => .inl x, fun _ x => .inl x⟩, fun _ _ => rfl⟩
        · intro e he
          simp only [List.mem_toArray, List.mem_cons, List.not_mem_nil, or_false] at he
          subst he
          exact .inr (.inr rfl)
        · rfl
      · cases hx
    · refine step_own hJ H rfl fun w₁ H₁ => ?_
      obtain ⟨nx, w', hrun, ⟨hfr, hL, hnx⟩, hc', he⟩ := okS_sound (P := P) (R := permOf ρ m) (N := w₁.heap.size) (Q := fun nx w' => FrD m m' ∧ Left ρ m w₁ ρ m' w' ∧ nx = .value v) (Nat.le_refl _)
        (calls_okS (w := w₁) hX hc hev fun args' hr => by
          obtain ⟨g1, e, g2, g3⟩ := ext_okS (P := P) (N := w₁.heap.size) H₁.sim hX hr hx h1 h2
          exact okS_callFunc_ext g2 (g3 fun w' hL hv => ⟨g1, hL, rfl⟩))
      have hv : VRel ρ v v := by
        obtain ⟨_, _, _, g, _⟩ := okS_sound (P := P) (R := permOf ρ m) (N := w₁.heap.size) (Q := fun nx w' => VRel ρ v v) (Nat.le_refl _)
          (calls_okS (w := w₁) hX hc hev fun args' hr => by
            obtain ⟨g1, e, g2, g3⟩ := ext_okS (P := P) (N := w₁.heap.size) H₁.sim hX hr hx h1 h2
            exact okS_callFunc_ext g2 (g3 fun w' hL hv => hv))
        exact g
      subst hnx
      obtain ⟨evs, hevs, hok⟩ := he #[]
      have hlist : ∀ e ∈ listed P b.fn a o w₁, EvOK (permOf ρ m) e := fun e hx => hok e (by have := mem_listed hx; rw [hevs] at this; simpa using this)
      exact ⟨_, ρ, m', w', _, stepG_value ho hw hk hrun, hL, hc', fun e he => .inl (hlist e he), by rw [deafBehind_ok hlist, hfr.2.1], hn v w' ρ hL.le hL.old (H₁.left hL hfr hc') hv⟩

/-- A deferred call is put on the frame's list. -/
theorem defer_real (hJ : ∀ σ, Judge P main (J σ)) (ho : ops[i]? = some o) (hw : Region.wanted o (yielded ops a.tmps) = true) (hk : b.kind ≠ .early) (H : Hold P E w₀ σ ρ m w) {ev : Operand → Value}
    (hev : ∀ x ∈ o.op.operands, VRel ρ (ev x) (a.eval x)) {f : Nat} {args : List Value} (hd : DefersF o ev f args) {n : Nat}
    (hn : ∀ w' d, Hold P E w₀ σ ρ m w' → DRel ρ (f, args) d → J σ n ((permOf ρ m).or E) (G (b.at (Act.put ⟨a.tmps, d :: a.defers⟩ o.dst undef) (.inRegion ops rest :: k)) cs) w') :
    J σ (n + 1) ((permOf ρ m).or E) (G (b.at a (.inRegion ops (i :: rest) :: k)) cs) w := by
  obtain ⟨x, as, ats, first, cap, hop, hx, rfl⟩ := hd
  have hxm : x ∈ o.op.operands := by rw [hop]; simp [Op.operands, Call.operands]
  have hr := hev x hxm
  rw [hx] at hr
  obtain ⟨f', c', e, h1, h2⟩ := vrel_func.1 hr
  have hdr : DRel ρ (f, first.toList ++ as.toList.map ev ++ cap.toList) { target := .fn (.func f) c', args := f' ++ as.map a.eval } := by
    refine ⟨c', rfl, ?_⟩
    simp only [Array.toList_append, Array.toList_map]
    refine (h1.append (Rel2.map_same fun y hy => hev y ?_)).append h2
    rw [hop]; simp only [Op.operands, Call.operands, Array.mem_append]
    exact .inr (by simpa using hy)
  have hrun : ∀ w, (execOp a.eval o).run P w = .ok (.defer { target := .fn (.func f) c', args := f' ++ as.map a.eval }) w := by
    intro w
    unfold execOp
    simp [hop, resolve, Deferred.ofValue, e]
  have hevs : ∀ w, (execOp a.eval o).events P w #[] = #[] := by
    intro w
    unfold execOp
    simp [hop, resolve, Deferred.ofValue, e]
  have hk' : (b.kind == CallKind.early) = false := by simpa using hk
  refine step_own hJ H rfl fun w₁ H₁ => ⟨_, ρ, m, w₁, #[], ?_, Left.refl H₁.sim, Chg.refl .., fun e he => by simp at he, rfl, hn w₁ _ H₁ hdr⟩
  have hfin := finish_op (b := b) (a := ⟨a.tmps, ({ target := .fn (.func f) c', args := f' ++ as.map a.eval } : Deferred) :: a.defers⟩) (k := k) (rest := rest) ho undef
  rw [stepG_oper ho hw, ← hfin]
  simp [stepG.apply, hrun, hevs, G, Frame.at, hk', GStep.after, seen_none]
end
end Go.AM
/-
  OPERATIONS ONE BEHIND THE OTHER, IN THE TEXT's ORDER: the frame's variables and deferred calls against the closures' ('ARel').
-/
set_option linter.unusedVariables false
set_option linter.unusedSimpArgs false
namespace Go.AM
open Go Go.Conc

structure ARel (nt : Nat) (ρ : Ren) (tm : Tm) (df : Df) (a : Act) : Prop where
  size : a.tmps.size = nt
  tm : ∀ t, t < nt → VRel ρ (tget t tm) (a.tmps.getD t undef)
  df : Rel2 (DRel ρ) df a.defers
theorem ARel.ren {nt : Nat} {ρ ρ' : Ren} {tm : Tm} {df : Df} {a : Act} (h : ρ.le ρ') (ha : ARel nt ρ tm df a) : ARel nt ρ' tm df a :=
  ⟨ha.size, fun t ht => (ha.tm t ht).ren h, ha.df.mono fun _ _ x => x.ren h⟩
theorem getD_set (l : Array Value) (d t : Nat) (v : Value) : (l.setIfInBounds d v).getD t undef = if d = t ∧ d < l.size then v else l.getD t undef := by
  simp only [Array.getD_eq_getD_getElem?, Array.getElem?_setIfInBounds]
  by_cases h : d = t
  · subst h
    by_cases h2 : d < l.size
    · simp [h2]
    · simp [h2, Array.getElem?_eq_none (Nat.le_of_not_lt h2)]
  · simp [h]
theorem put_tmps (a : Act) (d : Option Tmp) (v : Value) : (a.put d v).defers = a.defers ∧ (a.put d v).tmps.size = a.tmps.size ∧ ∀ t, t < a.tmps.size → (a.put d v).tmps.getD t undef = if d = some t then v else a.tmps.getD t undef := by
  cases d with
  | none => exact ⟨rfl, rfl, fun t ht => by simp [Act.put]⟩
  | some d =>
    refine ⟨rfl, by simp [Act.put], fun t ht => ?_⟩
    show (a.tmps.setIfInBounds d v).getD t undef = _
    rw [getD_set]
    by_cases h : d = t
    · subst h; simp [ht]
    · simp [h]
theorem ARel.put {nt : Nat} {ρ : Ren} {tm : Tm} {df df' : Df} {a : Act} {ds : List Deferred} {d : Option Tmp} {v v' : Value} (ha : ARel nt ρ tm df a) (hd : ∀ x, d = some x → x < 512) (hnt : nt ≤ 512) (hv : VRel ρ v v') (hds : Rel2 (DRel ρ) df' ds) :
    ARel nt ρ (putT d v tm) df' (Act.put ⟨a.tmps, ds⟩ d v') := by
  obtain ⟨h1, h2, h3⟩ := put_tmps ⟨a.tmps, ds⟩ d v'
  refine ⟨h2.trans ha.size, fun t ht => ?_, by rw [h1]; exact hds⟩
  rw [h3 t (by rw [← ha.size] at ht; exact ht)]
  unfold putT
  cases d with
  | none => exact ha.tm t ht
  | some d =>
    simp only []
    rw [tget_tput (hd d rfl) (by omega)]
    by_cases h : d = t
    · subst h; simp [hv]
    · simp only [h, if_false, Option.some.injEq]; exact ha.tm t ht

section
variable {P : Program} {X : Ext} {main : Bool} {J : JT} {F : Mem → Mem → Prop} {call : CallT} {E : Perm} {w₀ : World} {σ : GSt} {ρ : Ren} {m m' : Mem} {w : World}
variable {b : Frame} {a : Act} {k : List Item} {cs : List Frame} {ops : Array Oper} {i : Nat} {rest : List Nat} {o : Oper} {nt : Nat} {tm : Tm} {df df' : Df} {v : Value}

theorem eval_rel (ha : ∀ t, t < nt → VRel ρ (tget t tm) (a.tmps.getD t undef)) (H : Hold P E w₀ σ ρ m w) {x : Operand} (hx : goodO nt P.globals.size x = true) : VRel ρ (evT tm x) (a.eval x) := by
  cases x with
  | tmp t =>
    simp only [goodO, blt_d, decide_eq_true_eq] at hx
    exact ha t hx
  | const v => exact plain_vrel hx
  | global g =>
    simp only [goodO, blt_d, decide_eq_true_eq] at hx
    obtain ⟨p, h1, h2, h3⟩ := H.glob g hx
    exact vrel_ptr.2 ⟨p, h1, rfl, by rw [h2, h3]; rfl⟩
  | func f => exact vrel_func.2 ⟨_, _, rfl, trivial, trivial⟩

/-- One operation that is wanted. -/
theorem does_real (hJ : ∀ σ, Judge P main (J σ)) (hX : Fine P X) (hF : FRel F) (C : CallOk P X main J F call) (ho : ops[i]? = some o) (hwf : Wf m) (hd : OpDoes P call o tm m df v m' df') : F m m' ∧ ∃ c,
    ∀ {E : Perm} {w₀ : World} {σ : GSt} {ρ : Ren} {w : World} {b : Frame} {a : Act} {k : List Item} {cs : List Frame} {rest : List Nat} {n : Nat}, b.kind ≠ .early → Region.wanted o (yielded ops a.tmps) = true → Hold P E w₀ σ ρ m w →
      (∀ x ∈ o.op.operands, VRel ρ (evT tm x) (a.eval x)) → Rel2 (DRel ρ) df a.defers →
      (∀ σ' ρ' v' w' ds, ρ.le ρ' → OldR m ρ ρ' → Hold P E w₀ σ' ρ' m' w' → VRel ρ' v v' → Rel2 (DRel ρ') df' ds → J σ' n ((permOf ρ' m').or E) (G (b.at (Act.put ⟨a.tmps, ds⟩ o.dst v') (.inRegion ops rest :: k)) cs) w') →
      J σ (n + c) ((permOf ρ m).or E) (G (b.at a (.inRegion ops (i :: rest) :: k)) cs) w := by
  rcases hd with ⟨hop, rfl⟩ | ⟨f, args, hc, hcall, rfl⟩ | ⟨f, args, hdf, rfl, rfl, rfl⟩
  · refine ⟨hF.fr (opA_fr hop).w, 1, fun hk hw H hev hds hn => ?_⟩
    exact op_real (hJ _) ho hw hk H hev hop fun ρ' v' w' hle hold H' hv => hn _ ρ' v' w' _ hle (.of hold) H' hv (hds.mono fun _ _ x => x.ren hle)
  · obtain ⟨h1, h2, h3⟩ := C f args m v m' hwf hcall
    refine ⟨h1, ?_⟩
    cases hb : bodied P f with
    | false =>
      refine ⟨1, fun hk hw H hev hds hn => ?_⟩
      exact ext_real hJ hX ho hw hk H hev hc (h2 hb) fun v' w' ρ' hle hold H' hv => hn _ ρ' v' w' _ hle (.of hold) H' hv (hds.mono fun _ _ x => x.ren hle)
    | true =>
      obtain ⟨c, hcc⟩ := h3 hb
      refine ⟨c + 1, fun {E w₀ σ ρ w b a k cs rest n} hk hw H hev hds hn => ?_⟩
      refine call_real hJ hX ho hw hk H hev hc hb fun w₁ args' H₁ hr => hcc args' _ cs n .normal H₁ hr (.inl rfl) fun σ' ρ' v' w' hle hold H' hv => ?_
      rw [if_pos rfl, finish_op ho]
      exact hn σ' ρ' v' w' _ hle hold H' hv (hds.mono fun _ _ x => x.ren hle)
  · refine ⟨hF.refl _, 1, fun hk hw H hev hds hn => ?_⟩
    exact defer_real hJ ho hw hk H hev hdf fun w' d H' hdr => hn _ _ undef w' (d :: _) (Ren.le_refl _) (.of fun _ _ => rfl) H' vrel_undef ⟨hdr, hds⟩

theorem wanted_rel (hdst : ∀ j want, o.guard = some (j, want) → ∃ g, (ops[j]?).bind (·.dst) = some g ∧ g < nt ∧ VRel ρ (tget g tm) (a.tmps.getD g undef)) (hs : a.tmps.size = nt) : Region.wanted o (yielded ops a.tmps) = wantedT ops o tm := by
  unfold Region.wanted wantedT
  cases hg : o.guard with
  | none => rfl
  | some p =>
    obtain ⟨j, want⟩ := p
    obtain ⟨g, h1, h2, h3⟩ := hdst j want hg
    simp only [h1]
    unfold yielded
    rw [h1]
    simp only [Option.bind_some]
    have e : a.tmps[g]? = some (a.tmps.getD g undef) := by
      rw [Array.getD_eq_getD_getElem?, Array.getElem?_eq_getElem (show g < a.tmps.size by rw [hs]; exact h2)]; rfl
    rw [e]
    have key : ∀ u u', VRel ρ u u' → ∀ want : Bool, ((match (some u' : Option Value) with | some (.bool b) => some b | _ => none) == some want) = (match u with | .bool b => b == want | _ => false) := by
      intro u u' hu want
      cases u with
      | bool b => have := (vrel_same (by rfl)).1 hu; subst this; cases b <;> cases want <;> rfl
      | agg cs => obtain ⟨_, rfl, _⟩ := vrel_agg.1 hu; rfl
      | tuple cs => obtain ⟨_, rfl, _⟩ := vrel_tuple.1 hu; rfl
      | iface t x => obtain ⟨_, rfl, _⟩ := vrel_iface.1 hu; rfl
      | func fn f c => obtain ⟨_, _, rfl, _⟩ := vrel_func.1 hu; rfl
      | pointer p => cases p with
        | none => have := (vrel_same (by rfl)).1 hu; subst this; rfl
        | some p => obtain ⟨_, _, _, rfl⟩ := vrel_ptr.1 hu; rfl
      | slice p l c => cases p with
        | none => have := (vrel_same (by rfl)).1 hu; subst this; rfl
        | some p => obtain ⟨_, _, _, _, rfl, _⟩ := vrel_slice.1 hu; rfl
      | map p => cases p with
        | none => have := (vrel_same (by rfl)).1 hu; subst this; rfl
        | some p => obtain ⟨_, _, rfl⟩ := vrel_map.1 hu; rfl
      | _ => obtain ⟨n, h'⟩ := hu; cases n with | zero => exact h'.elim | succ n => have e : u' = _ := h'; subst e; rfl
    exact key _ _ h3 want

/-- Operation i, carried out or passed by. -/
theorem one_real (hJ : ∀ σ, Judge P main (J σ)) (hX : Fine P X) (hF : FRel F) (C : CallOk P X main J F call) (hnt : nt ≤ 512) {tm' : Tm} (hwf : Wf m) (hd : OneDoes P call nt ops i tm m df tm' m' df') : F m m' ∧ ∃ c,
    ∀ {E : Perm} {w₀ : World} {σ : GSt} {ρ : Ren} {w : World} {b : Frame} {a : Act} {k : List Item} {cs : List Frame} {rest : List Nat} {n : Nat}, b.kind ≠ .early → Hold P E w₀ σ ρ m w → ARel nt ρ tm df a →
      (∀ σ' ρ' w' a', ρ.le ρ' → OldR m ρ ρ' → Hold P E w₀ σ' ρ' m' w' → ARel nt ρ' tm' df' a' → J σ' n ((permOf ρ' m').or E) (G (b.at a' (.inRegion ops rest :: k)) cs) w') →
      J σ (n + c) ((permOf ρ m).or E) (G (b.at a (.inRegion ops (i :: rest) :: k)) cs) w := by
  obtain ⟨o, ho, hgood, hguard, h⟩ := hd
  rcases h with ⟨hw, v, hdo, rfl⟩ | ⟨hw, rfl, rfl, rfl⟩
  · obtain ⟨h1, c, h2⟩ := does_real hJ hX hF C ho hwf hdo
    refine ⟨h1, c, fun {E w₀ σ ρ w b a k cs rest n} hk H ha hn => ?_⟩
    have hwr := wanted_rel (ops := ops) (o := o) (tm := tm) (fun j want hj => let ⟨g, g1, g2, g3⟩ := hguard j want hj; ⟨g, g1, g2, ha.tm g g2⟩) ha.size
    refine h2 hk (hwr.trans hw) H (fun x hx => eval_rel ha.tm H (hgood.1 x hx)) ha.df fun σ' ρ' v' w' ds hle hold H' hv hds => hn σ' ρ' w' _ hle hold H' ?_
    exact (ha.ren hle).put hgood.2 hnt hv hds
  · refine ⟨hF.refl _, 1, fun {E w₀ σ ρ w b a k cs rest n} hk H ha hn => ?_⟩
    have hwr := wanted_rel (ops := ops) (o := o) (tm := tm) (fun j want hj => let ⟨g, g1, g2, g3⟩ := hguard j want hj; ⟨g, g1, g2, ha.tm g g2⟩) ha.size
    refine unwanted_real (hJ _) ho (hwr.trans hw) fun w₁ hk₁ => hn _ _ w₁ _ (Ren.le_refl _) (.of fun _ _ => rfl) (H.keeps hk₁) ?_
    exact ha.put (ds := a.defers) hgood.2 hnt vrel_undef ha.df
end
end Go.AM
/-
  REGIONS WHOSE ORDER IS DRAWN, 1: what the checks of such a region say; what every order keeps to.
-/
set_option linter.unusedVariables false
set_option linter.unusedSimpArgs false
namespace Go.AM
open Go Go.Conc

def B (bef : Array Nat) (i j : Nat) : Prop := (bef.getD i 0).testBit j = true
theorem fold_bits (bef : Array Nat) (j : Nat) : ∀ (l : List Edge) (s : Nat), (l.foldl (fun s e => if Region.binds .any e then s ||| 2 ^ e.on ||| bef.getD e.on 0 else s) s).testBit j = true ↔
    s.testBit j = true ∨ ∃ e ∈ l, Region.binds .any e = true ∧ (e.on = j ∨ B bef e.on j)
  | [], s => by simp
  | e :: l, s => by
    rw [List.foldl_cons, fold_bits bef j l]
    by_cases h : Region.binds .any e = true
    · rw [if_pos h]
      simp only [Nat.testBit_or, Bool.or_eq_true, Nat.testBit_two_pow, decide_eq_true_eq, List.mem_cons]
      constructor
      · rintro (((h1 | h1) | h1) | ⟨e', h1, h2⟩)
        · exact .inl h1
        · exact .inr ⟨e, .inl rfl, h, .inl h1⟩
        · exact .inr ⟨e, .inl rfl, h, .inr h1⟩
        · exact .inr ⟨e', .inr h1, h2⟩
      · rintro (h1 | ⟨e', (rfl | h1), h2, h3⟩)
        · exact .inl (.inl (.inl h1))
        · rcases h3 with h3 | h3
          · exact .inl (.inl (.inr h3))
          · exact .inl (.inr h3)
        · exact .inr ⟨e', h1, h2, h3⟩
    · rw [if_neg h]
      constructor
      · rintro (h1 | ⟨e', h1, h2⟩)
        · exact .inl h1
        · exact .inr ⟨e', List.mem_cons_of_mem _ h1, h2⟩
      · rintro (h1 | ⟨e', h1, h2, h3⟩)
        · exact .inl h1
        · rcases List.mem_cons.1 h1 with rfl | h1
          · exact absurd h2 h
          · exact .inr ⟨e', h1, h2, h3⟩

structure OrdOk (ops : Array Oper) (bef : Array Nat) (nt : Nat) : Prop where
  back : ∀ i o, ops[i]? = some o → ∀ e ∈ o.after, Region.binds .any e = true → e.on < i
  iff : ∀ i o, ops[i]? = some o → ∀ j, B bef i j ↔ ∃ e ∈ o.after, Region.binds .any e = true ∧ (e.on = j ∨ B bef e.on j)
  dst : ∀ (i : Nat) (o : Oper) (d : Nat), ops[i]? = some o → o.dst = some d → d < nt
theorem lt_of_get {α : Type} {l : Array α} {i : Nat} {x : α} (h : l[i]? = some x) : i < l.size := by
  rcases Nat.lt_or_ge i l.size with h1 | h1
  · exact h1
  · rw [Array.getElem?_eq_none h1] at h; cases h
theorem ordOk_of {ops : Array Oper} {bef : Array Nat} {nt : Nat} (h : orderOk ops bef nt = true) : OrdOk ops bef nt := by
  have key : ∀ i o, ops[i]? = some o → (o.after.toList.all (fun e => !Region.binds .any e || Nat.blt e.on i) && Nat.beq (o.after.toList.foldl (fun s e => if Region.binds .any e then s ||| 2 ^ e.on ||| bef.getD e.on 0 else s) 0) (bef.getD i 0) && (match o.dst with | some d => Nat.blt d nt | none => true)) = true := by
    intro i o ho
    have := List.all_eq_true.1 h i (List.mem_range.2 (lt_of_get ho))
    rw [ho] at this
    exact this
  refine ⟨fun i o ho e he hb => ?_, fun i o ho j => ?_, fun i o d ho hd => ?_⟩
  · have := key i o ho
    simp only [Bool.and_eq_true] at this
    have h1 := List.all_eq_true.1 this.1.1 e (by simpa using he)
    simp only [hb, Bool.not_true, Bool.false_or, Nat.blt_eq] at h1
    exact h1
  · have := key i o ho
    simp only [Bool.and_eq_true] at this
    have h1 := Nat.eq_of_beq_eq_true this.1.2
    unfold B
    rw [← h1, fold_bits]
    simp [B]
  · have := key i o ho
    simp only [Bool.and_eq_true, hd] at this
    simpa [blt_d] using this.2

section
variable {ops : Array Oper} {bef : Array Nat} {nt : Nat}
theorem OrdOk.lt (h : OrdOk ops bef nt) : ∀ {i j : Nat}, i < ops.size → B bef i j → j < i := by
  intro i
  induction i using Nat.strongRecOn with
  | _ i ih =>
    intro j hi hb
    obtain ⟨e, he, hbe, hj⟩ := (h.iff i _ (Array.getElem?_eq_getElem hi) j).1 hb
    have hlt := h.back i _ (Array.getElem?_eq_getElem hi) e he hbe
    rcases hj with rfl | hj
    · exact hlt
    · have := ih e.on hlt (by omega) hj
      omega
theorem OrdOk.trans (h : OrdOk ops bef nt) : ∀ {i j k : Nat}, i < ops.size → B bef i j → B bef j k → B bef i k := by
  intro i
  induction i using Nat.strongRecOn with
  | _ i ih =>
    intro j k hi hb hk
    obtain ⟨e, he, hbe, hj⟩ := (h.iff i _ (Array.getElem?_eq_getElem hi) j).1 hb
    have hlt := h.back i _ (Array.getElem?_eq_getElem hi) e he hbe
    rcases hj with rfl | hj
    · exact (h.iff i _ (Array.getElem?_eq_getElem hi) k).2 ⟨e, he, hbe, .inr hk⟩
    · exact (h.iff i _ (Array.getElem?_eq_getElem hi) k).2 ⟨e, he, hbe, .inr (ih e.on hlt (by omega) hj hk)⟩

/-! ### what every order keeps to -/
/-- D has been done; l is what is left, in its order. -/
structure Left2Do (ops : Array Oper) (bef : Array Nat) (D : Nat → Prop) (l : List Nat) : Prop where
  nodup : l.Nodup
  lt : ∀ i ∈ l, i < ops.size
  fresh : ∀ i ∈ l, ¬ D i
  all : ∀ i, i < ops.size → D i ∨ i ∈ l
  down : ∀ i, D i → ∀ j, B bef i j → D j
  ahead : ∀ l₁ i l₂, l = l₁ ++ i :: l₂ → ∀ j, B bef i j → D j ∨ j ∈ l₁
  dlt : ∀ i, D i → i < ops.size
theorem Left2Do.head {D : Nat → Prop} {i : Nat} {l : List Nat} (h : Left2Do ops bef D (i :: l)) : (∀ j, B bef i j → D j) ∧ ¬ D i ∧ i < ops.size ∧ Left2Do ops bef (fun x => D x ∨ x = i) l := by
  have h1 : ∀ j, B bef i j → D j := fun j hj => (h.ahead [] i l rfl j hj).resolve_right (by simp)
  have hn := List.nodup_cons.1 h.nodup
  refine ⟨h1, h.fresh i (by simp), h.lt i (by simp), hn.2, fun x hx => h.lt x (by simp [hx]), fun x hx => ?_, fun x hx => ?_, fun x hx j hj => ?_, fun l₁ x l₂ e j hj => ?_, fun x hx => ?_⟩
  · rintro (h2 | rfl)
    · exact h.fresh x (by simp [hx]) h2
    · exact hn.1 hx
  · rcases h.all x hx with h2 | h2
    · exact .inl (.inl h2)
    · rcases List.mem_cons.1 h2 with rfl | h2
      · exact .inl (.inr rfl)
      · exact .inr h2
  · rcases hx with hx | rfl
    · exact .inl (h.down x hx j hj)
    · exact .inl (h1 j hj)
  · rcases h.ahead (i :: l₁) x l₂ (by rw [e]; rfl) j hj with h2 | h2
    · exact .inl (.inl h2)
    · rcases List.mem_cons.1 h2 with rfl | h2
      · exact .inl (.inr rfl)
      · exact .inr h2
  · rcases hx with hx | rfl
    · exact h.dlt x hx
    · exact h.lt x (by simp)

def undone (n : Nat) (listed : Array Bool) : Nat := ((List.range n).filter fun i => !listed.getD i false).length
theorem set_getD (l : Array Bool) (i x : Nat) (hi : i < l.size) : (l.setIfInBounds i true).getD x false = (decide (i = x) || l.getD x false) := by
  simp only [Array.getD_eq_getD_getElem?, Array.getElem?_setIfInBounds]
  by_cases h : i = x
  · subst h; simp [hi]
  · simp [h]
theorem filter_lt {α : Type} {p q : α → Bool} : ∀ {l : List α} {x : α}, x ∈ l → p x = true → q x = false → (∀ y, q y = true → p y = true) → (l.filter q).length < (l.filter p).length
  | a :: l, x, hx, hp, hq, h => by
    have hle : ∀ (l : List α), (l.filter q).length ≤ (l.filter p).length := by
      intro l
      induction l with
      | nil => exact Nat.le_refl _
      | cons b l ih =>
        simp only [List.filter_cons]
        cases hqb : q b
        · cases hpb : p b <;> simp <;> omega
        · rw [h b hqb]; simp; omega
    rcases List.mem_cons.1 hx with rfl | hx
    · have := hle l
      simp only [List.filter_cons, hp, hq, if_true, Bool.false_eq_true, if_false, List.length_cons]
      omega
    · have := filter_lt hx hp hq h
      simp only [List.filter_cons]
      cases hqb : q a
      · cases hpb : p a <;> simp <;> omega
      · rw [h a hqb]; simp; omega
theorem down_of (h : OrdOk ops bef nt) {D : Nat → Prop} (hlt : ∀ i, D i → i < ops.size) (hc : ∀ i, D i → ∀ o, ops[i]? = some o → ∀ e ∈ o.after, Region.binds .any e = true → D e.on) : ∀ i, D i → ∀ j, B bef i j → D j := by
  intro i
  induction i using Nat.strongRecOn with
  | _ i ih =>
    intro hi j hj
    have hil := hlt i hi
    obtain ⟨e, he, hbe, hj⟩ := (h.iff i _ (Array.getElem?_eq_getElem hil) j).1 hj
    have h1 := hc i hi _ (Array.getElem?_eq_getElem hil) e he hbe
    rcases hj with rfl | hj
    · exact h1
    · exact ih e.on (h.back i _ (Array.getElem?_eq_getElem hil) e he hbe) h1 j hj
theorem Left2Do.nil {D : Nat → Prop} (hall : ∀ i, i < ops.size → D i) (hdown : ∀ i, D i → ∀ j, B bef i j → D j) (hlt : ∀ i, D i → i < ops.size) : Left2Do ops bef D [] :=
  ⟨List.nodup_nil, by simp, by simp, fun i hi => .inl (hall i hi), hdown, fun l₁ i l₂ e => (by simp at e), hlt⟩

/-- What the drawing of an order yields. -/
theorem order_go (h : OrdOk ops bef nt) : ∀ (fuel t : Nat) (listed : Array Bool), listed.size = ops.size → undone ops.size listed ≤ fuel →
    (∀ i, listed.getD i false = true → ∀ o, ops[i]? = some o → ∀ e ∈ o.after, Region.binds .any e = true → listed.getD e.on false = true) →
    Left2Do ops bef (fun i => listed.getD i false = true) (Region.linearise.go .any ops fuel t listed []) := by
  intro fuel
  induction fuel with
  | zero =>
    intro t listed hs hu hc
    have hlt : ∀ i, listed.getD i false = true → i < ops.size := fun i hi => by
      rcases Nat.lt_or_ge i ops.size with h1 | h1
      · exact h1
      · rw [Array.getD_eq_getD_getElem?, Array.getElem?_eq_none (by omega)] at hi; cases hi
    simp only [Region.linearise.go, List.reverse_nil]
    refine Left2Do.nil (fun i hi => ?_) (down_of h hlt hc) hlt
    have : (List.range ops.size).filter (fun i => !listed.getD i false) = [] := List.eq_nil_of_length_eq_zero (by unfold undone at hu; omega)
    rw [List.filter_eq_nil_iff] at this
    simpa using this i (List.mem_range.2 hi)
  | succ fuel ih =>
    intro t listed hs hu hc
    have hlt : ∀ i, listed.getD i false = true → i < ops.size := fun i hi => by
      rcases Nat.lt_or_ge i ops.size with h1 | h1
      · exact h1
      · rw [Array.getD_eq_getD_getElem?, Array.getElem?_eq_none (by omega)] at hi; cases hi
    have hTF : ∀ i, i < ops.size → listed.getD i true = listed.getD i false := fun i hi => by
      simp only [Array.getD_eq_getD_getElem?, Array.getElem?_eq_getElem (show i < listed.size by omega), Option.getD_some]
    simp only [Region.linearise.go]
    change Left2Do ops bef _ (match (Region.ready .any ops listed)[t % (Region.ready .any ops listed).length]? with
      | some i => Region.linearise.go .any ops fuel (t / (Region.ready .any ops listed).length) (listed.setIfInBounds i true) [i]
      | none => [].reverse)
    have hready : ∀ i, i ∈ Region.ready .any ops listed ↔ i < ops.size ∧ listed.getD i false = false ∧ ∀ o, ops[i]? = some o → ∀ e ∈ o.after, Region.binds .any e = true → listed.getD e.on false = true := by
      intro i
      unfold Region.ready
      rw [List.mem_filter, List.mem_range]
      constructor
      · rintro ⟨h1, h2⟩
        simp only [Bool.and_eq_true, Bool.not_eq_true', Array.getElem?_eq_getElem h1, Option.map_some, Option.getD_some] at h2
        rw [hTF i h1] at h2
        refine ⟨h1, h2.1, fun o ho e he hb => ?_⟩
        rw [Array.getElem?_eq_getElem h1] at ho
        cases ho
        have := Array.all_eq_true_iff_forall_mem.1 h2.2 e he
        simpa [hb] using this
      · rintro ⟨h1, h2, h3⟩
        refine ⟨h1, ?_⟩
        simp only [Bool.and_eq_true, Bool.not_eq_true', Array.getElem?_eq_getElem h1, Option.map_some, Option.getD_some]
        rw [hTF i h1]
        refine ⟨h2, Array.all_eq_true_iff_forall_mem.2 fun e he => ?_⟩
        cases hb : Region.binds .any e with
        | false => simp
        | true => simpa [hb] using h3 _ (Array.getElem?_eq_getElem h1) e he hb
    cases hi : (Region.ready .any ops listed)[t % (Region.ready .any ops listed).length]? with
    | none =>
      have hnil : Region.ready .any ops listed = [] := by
        cases hr : Region.ready .any ops listed with
        | nil => rfl
        | cons x xs =>
          rw [hr] at hi
          have hlt' : t % (x :: xs).length < (x :: xs).length := Nat.mod_lt _ (by simp)
          simp only [List.getElem?_eq_none_iff] at hi
          omega
      simp only [List.reverse_nil]
      refine Left2Do.nil (fun i hi => ?_) (down_of h hlt hc) hlt
      -- the least that is not done could be done
      induction i using Nat.strongRecOn with
      | _ i ih2 =>
        cases hd : listed.getD i false with
        | true => rfl
        | false =>
          have : i ∈ Region.ready .any ops listed := (hready i).2 ⟨hi, hd, fun o ho e he hb => ih2 e.on (h.back i o ho e he hb) (by have := h.back i o ho e he hb; omega)⟩
          rw [hnil] at this; cases this
    | some i =>
      obtain ⟨h1, h2, h3⟩ := (hready i).1 (List.mem_of_getElem? hi)
      have his : i < listed.size := by omega
      simp only []
      rw [linearise_go_acc, List.reverse_singleton, List.singleton_append]
      have hset : ∀ x, (listed.setIfInBounds i true).getD x false = true ↔ listed.getD x false = true ∨ x = i := fun x => by
        rw [set_getD _ _ _ his]; simp only [Bool.or_eq_true, decide_eq_true_eq]; exact ⟨fun h => h.elim (fun e => .inr e.symm) .inl, fun h => h.elim .inr fun e => .inl e.symm⟩
      have hL := ih (t / (Region.ready .any ops listed).length) (listed.setIfInBounds i true) (by simpa using hs) (by
        have := filter_lt (p := fun x => !listed.getD x false) (q := fun x => !(listed.setIfInBounds i true).getD x false) (List.mem_range.2 h1) (by simp [h2]) (by simp [(hset i).2 (.inr rfl)]) (fun y hy => by
          simp only [Bool.not_eq_true'] at hy ⊢
          cases hh : listed.getD y false with
          | false => rfl
          | true => rw [(hset y).2 (.inl hh)] at hy; cases hy)
        unfold undone at hu ⊢
        omega) (fun x hx o ho e he hb => by
          rcases (hset x).1 hx with hx | rfl
          · exact (hset _).2 (.inl (hc x hx o ho e he hb))
          · exact (hset _).2 (.inl (h3 o ho e he hb)))
      have hmem : i ∉ Region.linearise.go .any ops fuel (t / (Region.ready .any ops listed).length) (listed.setIfInBounds i true) [] := fun hm => hL.fresh i hm ((hset i).2 (.inr rfl))
      refine ⟨List.nodup_cons.2 ⟨hmem, hL.nodup⟩, fun x hx => ?_, fun x hx hd => ?_, fun x hx => ?_, down_of h hlt hc, fun l₁ x l₂ e j hj => ?_, hlt⟩
      · rcases List.mem_cons.1 hx with rfl | hx
        · exact h1
        · exact hL.lt x hx
      · rcases List.mem_cons.1 hx with rfl | hx
        · rw [h2] at hd; cases hd
        · exact hL.fresh x hx ((hset x).2 (.inl hd))
      · rcases hL.all x hx with h4 | h4
        · rcases (hset x).1 h4 with h5 | rfl
          · exact .inl h5
          · exact .inr (by simp)
        · exact .inr (by simp [h4])
      · cases l₁ with
        | nil =>
          simp only [List.nil_append, List.cons.injEq] at e
          obtain ⟨rfl, _⟩ := e
          obtain ⟨ed, he, hbe, hjj⟩ := (h.iff i _ (Array.getElem?_eq_getElem h1) j).1 hj
          have h5 := h3 _ (Array.getElem?_eq_getElem h1) ed he hbe
          rcases hjj with rfl | hjj
          · exact .inl h5
          · exact .inl (down_of h hlt hc _ h5 j hjj)
        | cons y l₁ =>
          simp only [List.cons_append, List.cons.injEq] at e
          obtain ⟨rfl, e⟩ := e
          rcases hL.ahead l₁ x l₂ e j hj with h4 | h4
          · rcases (hset j).1 h4 with h5 | rfl
            · exact .inl h5
            · exact .inr (by simp)
          · exact .inr (by simp [h4])
theorem order_sound (h : OrdOk ops bef nt) (t : Nat) : Left2Do ops bef (fun _ => False) (Region.linearise .any ops t) := by
  have hg : ∀ i, (Array.replicate ops.size false).getD i false = false := fun i => by
    simp only [Array.getD_eq_getD_getElem?, Array.getElem?_replicate]
    split <;> rfl
  have := order_go h ops.size t (Array.replicate ops.size false) (by simp) (by
    unfold undone
    have := List.length_filter_le (fun i => !(Array.replicate ops.size false).getD i false) (List.range ops.size)
    simpa using this) (fun i hi => by rw [hg i] at hi; cases hi)
  have e : (fun i => (Array.replicate ops.size false).getD i false = true) = fun _ => False := by
    funext i
    rw [hg i]; simp
  rw [e] at this
  exact this
end
end Go.AM
/-
  REGIONS WHOSE ORDER IS DRAWN, 2: operations that only look, or only make a block: they may be carried out later than the abstract machine does.
-/
set_option linter.unusedVariables false
set_option linter.unusedSimpArgs false
namespace Go.AM
open Go Go.Conc

/-- Memory has blocks more. -/
structure Grow (m m' : Mem) : Prop where
  fr : FrD m m'
  blk : ∀ b, b < m.next → m'.blk b = m.blk b
theorem Grow.refl (m : Mem) : Grow m m := ⟨FrD.refl m, fun _ _ => rfl⟩
theorem Grow.trans {m m₁ m₂ : Mem} (h : Grow m m₁) (k : Grow m₁ m₂) : Grow m m₂ :=
  ⟨h.fr.trans k.fr, fun b hb => (k.blk b (Nat.lt_of_lt_of_le hb h.fr.1.next)).trans (h.blk b hb)⟩
theorem Grow.alloc (m : Mem) (k : Blk) (hk : k.live) : Grow m (m.alloc k) := ⟨FrD.alloc m k hk, fun b hb => by rw [Mem.blk_alloc, if_neg (by omega)]⟩
section
variable {m m' : Mem} (h : Grow m m')
include h
theorem Grow.home : m'.home = m.home := h.fr.1.home
theorem Grow.hid : m'.hid = m.hid := h.fr.1.hid
theorem Grow.base : m'.base = m.base := h.fr.1.base
theorem Grow.floor : m'.floor = m.floor := h.fr.1.floor
theorem Grow.opn : m'.opn = m.opn := h.fr.1.opn
theorem Grow.next : m.next ≤ m'.next := h.fr.1.next
theorem Grow.deaf : m'.deaf = m.deaf := h.fr.2.1
end
section
variable {P : Program} {E : Perm} {w₀ : World} {σ : GSt} {ρ ρ' : Ren} {m m' : Mem} {w w' : World}
theorem permOf_same (hb : ∀ b p, ρ b = some p → m'.blk b = m.blk b) (hh : m'.hid = m.hid) (hhm : m'.home = m.home) (hf : m'.floor = m.floor) (ho : m'.opn = m.opn) (hd : m'.deaf = m.deaf) : permOf ρ m' = permOf ρ m := by
  have hR : ∀ b p o, ρ b = some p → (m'.okR b o ↔ m.okR b o) := fun b p o hp => by unfold Mem.okR; rw [hb b p hp, hh]
  have hW : ∀ b p o, ρ b = some p → (m'.okW b o ↔ m.okW b o) := fun b p o hp => by unfold Mem.okW; rw [hR b p o hp, hf, ho]
  have hO : ∀ b, m'.ownsObj b = m.ownsObj b := fun b => by unfold Mem.ownsObj; rw [hh, hhm]
  unfold permOf
  congr 1
  · funext c x
    exact propext ⟨fun ⟨b, p, h1, h2, h3, h4, h5⟩ => ⟨b, p, h1, h2, h3, h4, (hR b p _ h1).1 h5⟩, fun ⟨b, p, h1, h2, h3, h4, h5⟩ => ⟨b, p, h1, h2, h3, h4, (hR b p _ h1).2 h5⟩⟩
  · funext c x
    exact propext ⟨fun ⟨b, p, h1, h2, h3, h4, h5⟩ => ⟨b, p, h1, h2, h3, h4, (hW b p _ h1).1 h5⟩, fun ⟨b, p, h1, h2, h3, h4, h5⟩ => ⟨b, p, h1, h2, h3, h4, (hW b p _ h1).2 h5⟩⟩
  · funext c
    exact propext ⟨fun ⟨b, p, h1, h2, h3, h4⟩ => ⟨b, p, h1, h2, by rwa [hb b p h1] at h3, by rwa [hO] at h4⟩, fun ⟨b, p, h1, h2, h3, h4⟩ => ⟨b, p, h1, h2, by rwa [hb b p h1], by rwa [hO]⟩⟩
theorem Hold.grow (H : Hold P E w₀ σ ρ m w) (g : Grow m m') : Hold P E w₀ σ ρ m' w ∧ permOf ρ m' = permOf ρ m := by
  have hb : ∀ b p, ρ b = some p → m'.blk b = m.blk b := fun b p hp => g.blk b (H.sim.dom b p hp)
  have hp := permOf_same hb g.hid g.home g.floor g.opn g.deaf
  refine ⟨⟨H.sim.elsewhere g.next hb g.hid g.base g.home, H.rest, by rw [hp]; exact H.apart, H.glob, H.grp.fr g.fr.1 ρ.le_refl (fun _ _ => rfl), g.fr.2.2 H.wf, H.apc.step H.wf H.apart g.fr.1 (fun _ _ => rfl) (by rw [hp]; exact Within.refl _ _), by rw [hp]; exact H.ew⟩, hp⟩

/-! ### operations that only look -/
def watchV (o : Oper) (ev : Operand → Value) (v : Value) : Value :=
  match o.op with
  | .load _ x => ev x
  | .lookup _ x _ _ => ev x
  | .slice _ x _ _ _ => ev x
  | _ => v
theorem map_eq {v : Value} {o : Option Value} : o.map (fun x => (x, m)) = some (v, m') ↔ o = some v ∧ m' = m := by
  cases o with
  | none => simp
  | some x => simp only [Option.map_some, Option.some.injEq, Prod.mk.injEq]; exact ⟨fun h => ⟨h.1, h.2.symm⟩, fun h => ⟨h.1, h.2.symm⟩⟩
theorem loads_same {b o n : Nat} {vs : List Value} (h : m.loads b o n = some vs) (hb : m'.blk b = m.blk b) (hm : meets m'.hid b o n = false) : m'.loads b o n = some vs := by
  unfold Mem.loads at h ⊢
  simp only [hb] at h ⊢
  split at h
  · rename_i hc
    simp only [Bool.and_eq_true] at hc
    rw [if_pos (by simp only [Bool.and_eq_true]; exact ⟨hc.1, by rw [hm]; rfl⟩)]
    exact h
  · cases h
theorem loads_meets {b o n : Nat} {vs : List Value} (h : m.loads b o n = some vs) : meets m.hid b o n = false ∧ (m.blk b).kind = 1 := by
  unfold Mem.loads at h
  simp only [] at h
  split at h
  · rename_i hc
    simp only [Bool.and_eq_true, Bool.not_eq_true', beq_iff_eq] at hc
    exact ⟨hc.2, hc.1⟩
  · cases h
/-- What a load looks at. -/
theorem loadA_at {t : TypeId} {p v : Value} (h : loadA P t p m = some v) : ∃ b o n, p = .pointer (some ⟨b, o, none⟩) ∧ (m.blk b).kind = 1 ∧ meets m.hid b o n = false ∧
    ∀ m' : Mem, m'.blk b = m.blk b → ((loadA P t p m').isSome = true ∨ meets m'.hid b o n = false) → loadA P t p m' = some v := by
  unfold loadA at h
  split at h
  · rename_i b o
    split at h
    · rename_i ha
      obtain ⟨n, hn, h⟩ := Option.bind_eq_some_iff.1 h
      obtain ⟨l, hl, rfl⟩ := Option.map_eq_some_iff.1 h
      have hk := loads_meets hl
      refine ⟨b, o, n, rfl, hk.2, hk.1, fun m' hb hm => ?_⟩
      have hm' : meets m'.hid b o n = false := by
        rcases hm with hm | hm
        · unfold loadA at hm
          simp only [ha, hn, Option.bind_some, Option.isSome_map] at hm
          obtain ⟨l', hl'⟩ := Option.isSome_iff_exists.1 hm
          exact (loads_meets hl').1
        · exact hm
      unfold loadA
      simp only [ha, hn, Option.bind_some, loads_same hl hb hm', Option.map_some]
    · rename_i ha
      obtain ⟨l, hl, h⟩ := Option.bind_eq_some_iff.1 h
      have hk := loads_meets hl
      refine ⟨b, o, 1, rfl, hk.2, hk.1, fun m' hb hm => ?_⟩
      have hm' : meets m'.hid b o 1 = false := by
        rcases hm with hm | hm
        · unfold loadA at hm
          simp only [ha] at hm
          obtain ⟨l', hl'⟩ := Option.isSome_iff_exists.1 hm
          obtain ⟨l'', hl'', _⟩ := Option.bind_eq_some_iff.1 hl'
          exact (loads_meets hl'').1
        · exact hm
      unfold loadA
      simp only [ha, loads_same hl hb hm', Option.bind_some, h]
    · cases h
  · cases h
theorem lookupA_at {t : TypeId} {x k v : Value} {ok : Bool} (h : lookupA P t x k ok m = some v) :
    (∀ m', lookupA P t x k ok m' = some v) ∨ ∃ b, x = .map (some b) ∧ (m.blk b).kind = 2 ∧ m.ownsObj b = true ∧ ∀ m' : Mem, m'.blk b = m.blk b → ((lookupA P t x k ok m').isSome = true ∨ m'.ownsObj b = true) → lookupA P t x k ok m' = some v := by
  unfold lookupA at h
  split at h
  · rename_i kt et r s hu
    split at h
    · rename_i z hk hz
      cases r with
      | none =>
        left
        intro m'
        unfold lookupA
        simp only [hu, hk, hz]
        exact h
      | some b =>
        right
        simp only [] at h
        split at h
        · rename_i es hes
          split at hes
          · rename_i hc
            simp only [Bool.and_eq_true, beq_iff_eq] at hc
            refine ⟨b, rfl, hc.1, hc.2, fun m' hb hm => ?_⟩
            have ho : m'.ownsObj b = true := by
              rcases hm with hm | hm
              · unfold lookupA at hm
                simp only [hu, hk, hz] at hm
                split at hm
                · rename_i es' hes'
                  split at hes'
                  · rename_i hc'
                    simp only [Bool.and_eq_true] at hc'
                    exact hc'.2
                  · cases hes'
                · cases hm
              · exact hm
            unfold lookupA
            simp only [hu, hk, hz]
            rw [if_pos (by rw [hb, hc.1, ho]; rfl), hb]
            simp only [Option.some.injEq] at hes
            subst hes
            exact h
          · cases hes
        · cases h
    · cases h
  · cases h
theorem sliceA_at {t : TypeId} {x : Value} {lo hi : Option Value} {m' : Mem} (hb : ∀ b, blkV x = some b → m'.blk b = m.blk b) : sliceA P t x lo hi m' = sliceA P t x lo hi m := by
  unfold sliceA
  split
  · rename_i b o len cap hu
    rw [hb b rfl]
  · rfl
  · rfl
  · rfl

/-! ### operations that make a block -/
def MkForm (mk : Nat → Value) : Prop := (mk = fun β => ptrTo β 0) ∨ (∃ l c, c ≠ INF ∧ mk = fun β => .slice (some ⟨β, 0, none⟩) l c) ∨ (mk = fun β => .map (some β))
theorem VRel.back : ∀ {n : Nat} {v u u' : Value}, ρ.le ρ' → VR ρ n v u' → VRel ρ' v u → VRel ρ v u := by
  intro n
  induction n with
  | zero => intro v u u' _ h _; exact h.elim
  | succ n ih =>
    intro v u u' hle h h'
    have list : ∀ {l l' r : List Value}, Rel2 (VR ρ n) l l' → Rel2 (VRel ρ') l r → Rel2 (VRel ρ) l r := by
      intro l
      induction l with
      | nil => intro l' r _ h2; cases r <;> simp_all [Rel2]
      | cons a l ihl =>
        intro l' r h1 h2
        cases l' with
        | nil => exact h1.elim
        | cons a' l' => cases r with
          | nil => exact h2.elim
          | cons b r => exact ⟨ih hle h1.1 h2.1, ihl h1.2 h2.2⟩
    cases v with
    | pointer a => cases a with
      | none => exact (vrel_same rfl).2 ((vrel_same rfl).1 h')
      | some a =>
        obtain ⟨p, h1, h2, _⟩ := h
        obtain ⟨q, g1, g2, g3⟩ := vrel_ptr.1 h'
        rw [hle _ _ h1] at g1; cases g1
        exact vrel_ptr.2 ⟨_, h1, h2, g3⟩
    | slice a l c => cases a with
      | none => exact (vrel_same rfl).2 ((vrel_same rfl).1 h')
      | some a =>
        obtain ⟨p, _, h1, h2, _⟩ := h
        obtain ⟨q, c', g1, g2, g3⟩ := vrel_slice.1 h'
        rw [hle _ _ h1] at g1; cases g1
        exact vrel_slice.2 ⟨_, c', h1, g2, g3⟩
    | map a => cases a with
      | none => exact (vrel_same rfl).2 ((vrel_same rfl).1 h')
      | some a =>
        obtain ⟨p, h1, h2⟩ := h
        obtain ⟨q, g1, g2⟩ := vrel_map.1 h'
        rw [hle _ _ h1] at g1; cases g1
        exact vrel_map.2 ⟨_, h1, g2⟩
    | func fn f c =>
      obtain ⟨_, _, _, h1, h2⟩ := h
      obtain ⟨f', c', e, g1, g2⟩ := vrel_func.1 h'
      exact vrel_func.2 ⟨f', c', e, list h1 g1, list h2 g2⟩
    | iface t x =>
      obtain ⟨_, _, h1⟩ := h
      obtain ⟨x', e, g1⟩ := vrel_iface.1 h'
      exact vrel_iface.2 ⟨x', e, ih hle h1 g1⟩
    | agg cs =>
      obtain ⟨_, _, h1⟩ := h
      obtain ⟨x', e, g1⟩ := vrel_agg.1 h'
      exact vrel_agg.2 ⟨x', e, list h1 g1⟩
    | tuple cs =>
      obtain ⟨_, _, h1⟩ := h
      obtain ⟨x', e, g1⟩ := vrel_tuple.1 h'
      exact vrel_tuple.2 ⟨x', e, list h1 g1⟩
    | bool b => exact (vrel_same rfl).2 ((vrel_same rfl).1 h')
    | int k b => exact (vrel_same rfl).2 ((vrel_same rfl).1 h')
    | string b => exact (vrel_same rfl).2 ((vrel_same rfl).1 h')
    | nilFunc => exact (vrel_same rfl).2 ((vrel_same rfl).1 h')
    | nilIface => exact (vrel_same rfl).2 ((vrel_same rfl).1 h')
    | float k b => obtain ⟨n, h'⟩ := h'; cases n with | zero => exact h'.elim | succ n => exact ⟨1, h'⟩
    | complex k a b => obtain ⟨n, h'⟩ := h'; cases n with | zero => exact h'.elim | succ n => exact ⟨1, h'⟩
    | chan r => obtain ⟨n, h'⟩ := h'; cases n with | zero => exact h'.elim | succ n => exact ⟨1, h'⟩

/-- A block that the memory has is laid into the world. -/
theorem Sim.adopt (h : Sim ρ m w') {β β' : Nat} {A : Mem} {pl : Pl} (hβ : ρ β = none) (hlt : β < m.next) (h' : Sim ρ' A w') (hp : ρ' β' = some pl) (hle : ρ.le ρ') (hne : ∀ b p, ρ b = some p → b ≠ β')
    (e : (A.blk β').kind = (m.blk β).kind ∧ (A.blk β').sz = (m.blk β).sz ∧ (A.blk β').pos = (m.blk β).pos ∧ (A.blk β').cs = (m.blk β).cs ∧ (A.blk β').es = (m.blk β).es ∧ (A.blk β').clock = (m.blk β).clock)
    (hk3 : (m.blk β).kind ≠ 3) (hA : ∀ b p, ρ b = some p → A.blk b = m.blk b) (hbase : A.base ≤ β') (hown : touchesBlk A.hid β' = false ∧ A.home ≤ β') (hes : (m.blk β).es = #[])
    (hv : ∀ v, some v ∈ (m.blk β).cs → ∃ u, VRel ρ v u) : Sim (ρ.put β pl) m w' := by
  obtain ⟨e1, e2, e3, e4, e5, e6⟩ := e
  have hle2 := Ren.le_put hβ pl
  have hcase : ∀ b' p', ρ.put β pl b' = some p' → (b' = β ∧ p' = pl) ∨ (b' ≠ β ∧ ρ b' = some p') := by
    intro b' p' hp'
    unfold Ren.put at hp'
    split at hp'
    · rename_i e; exact .inl ⟨e, (Option.some.inj hp').symm⟩
    · rename_i e; exact .inr ⟨e, hp'⟩
  refine ⟨fun b' p' hp' => ?_, fun b' p' hp' hk => ?_, fun b' p' x v hp' hc => ?_, fun b' p' x hp' hx hk hbb => ?_, fun b' p' hp' hk ho => ?_, fun b' p' hp' hk ho => ?_, fun b₁ b₂ p₁ p₂ hne' h₁ h₂ k₁ k₂ hc => ?_, fun b' p' hp' => ?_, fun b' p' hp' hk hps => ?_⟩
  · rcases hcase _ _ hp' with ⟨rfl, rfl⟩ | ⟨_, hq⟩
    · exact hlt
    · exact h.dom _ _ hq
  · rcases hcase _ _ hp' with ⟨rfl, rfl⟩ | ⟨_, hq⟩
    · obtain ⟨g1, g2, g3⟩ := h'.cells β' _ hp (by rw [e1]; exact hk)
      exact ⟨g1.trans e2, by rw [← e4]; exact g2, g3⟩
    · exact h.cells _ _ hq hk
  · rcases hcase _ _ hp' with ⟨rfl, rfl⟩ | ⟨_, hq⟩
    · have hx : (m.blk b').kind = 1 ∧ (m.blk b').cs[x]? = some (some v) := by
        unfold Mem.cell at hc
        split at hc
        · rename_i hk
          cases hg : (m.blk b').cs[x]? with
          | none => simp [hg] at hc
          | some u => cases u <;> simp [hg] at hc; subst hc; exact ⟨hk.1, rfl⟩
        · cases hc
      have hc' : A.cell β' x = some v := by
        unfold Mem.cell
        rw [if_pos ⟨by rw [e1]; exact hx.1, touches_covers hown.1 x⟩, e4, hx.2]; rfl
      obtain ⟨v', g1, g2⟩ := h'.vals β' _ x v hp hc'
      obtain ⟨u, n, hu⟩ := hv v (List.mem_of_getElem? hx.2)
      exact ⟨v', g1, (VRel.back hle hu g2).ren hle2⟩
    · obtain ⟨v', h1, h2⟩ := h.vals _ _ _ _ hq hc
      exact ⟨v', h1, h2.ren hle2⟩
  · rcases hcase _ _ hp' with ⟨rfl, rfl⟩ | ⟨_, hq⟩
    · exact h'.thaw β' _ x hp hx (by rw [e1]; exact hk) hbase
    · exact h.thaw _ _ _ hq hx hk hbb
  · rcases hcase _ _ hp' with ⟨rfl, rfl⟩ | ⟨_, hq⟩
    · obtain ⟨es', g1, g2⟩ := h'.maps β' _ hp (by rw [e1]; exact hk) (by unfold Mem.ownsObj; rw [hown.1]; simpa using hown.2)
      rw [e5, hes] at g2
      refine ⟨es', by rw [← e6]; exact g1, ?_⟩
      rw [hes]
      cases hh : es'.toList with
      | nil => trivial
      | cons a l => rw [hh] at g2; exact g2.elim
    · obtain ⟨es', g1, g2⟩ := h.maps _ _ hq hk ho
      exact ⟨es', g1, g2.mono fun _ _ x => ⟨x.1.ren hle2, x.2.1.ren hle2, x.2.2⟩⟩
  · rcases hcase _ _ hp' with ⟨rfl, rfl⟩ | ⟨_, hq⟩
    · exact absurd hk hk3
    · exact h.iters _ _ hq hk ho
  · rcases hcase _ _ h₁ with ⟨rfl, rfl⟩ | ⟨n₁, q₁⟩ <;> rcases hcase _ _ h₂ with ⟨rfl, rfl⟩ | ⟨n₂, q₂⟩
    · exact absurd rfl hne'
    · have := h'.sep β' b₂ _ p₂ (Ne.symm (hne _ _ q₂)) hp (hle _ _ q₂) (by rw [e1]; exact k₁) (by rw [hA _ _ q₂]; exact k₂) hc
      rw [e1, hA _ _ q₂] at this; exact this
    · have := h'.sep b₁ β' p₁ _ (hne _ _ q₁) (hle _ _ q₁) hp (by rw [hA _ _ q₁]; exact k₁) (by rw [e1]; exact k₂) hc
      rw [e1, hA _ _ q₁] at this; exact this
    · exact h.sep _ _ _ _ hne' q₁ q₂ k₁ k₂ hc
  · rcases hcase _ _ hp' with ⟨rfl, rfl⟩ | ⟨_, hq⟩
    · exact h'.inw _ _ hp
    · exact h.inw _ _ hq
  · rcases hcase _ _ hp' with ⟨rfl, rfl⟩ | ⟨_, hq⟩
    · exact h'.vars _ _ hp (by rw [e1]; exact hk) (by rw [e3]; exact hps)
    · exact h.vars _ _ hq hk hps
end
end Go.AM
/-
  REGIONS WHOSE ORDER IS DRAWN, 3: the later carrying out, against the model's goroutine.
-/
set_option linter.unusedVariables false
set_option linter.unusedSimpArgs false
namespace Go.AM
open Go Go.Conc

section
variable {P : Program} {E : Perm} {w₀ : World} {σ : GSt} {ρ ρ' : Ren} {m m' : Mem} {w w' : World}
/-- Nothing that is there already may be touched but to look. -/
def Mem.shut (m : Mem) : Mem := { m with floor := m.next, opn := [], home := m.next, base := m.next }
theorem Sim.shut (h : Sim ρ m w) : Sim ρ m.shut w :=
  ⟨h.dom, h.cells, h.vals, fun b p o hp _ _ hb => absurd (h.dom b p hp) (Nat.not_lt.2 hb), fun b p hp _ ho => absurd (h.dom b p hp) (Nat.not_lt.2 (Mem.ownsObj_spec ho).2), fun b p hp _ ho => absurd (h.dom b p hp) (Nat.not_lt.2 (Mem.ownsObj_spec ho).2), h.sep, h.inw, h.vars⟩
theorem shut_perm (h : Sim ρ m w) : (∀ b o, (permOf ρ m.shut).rd b o → (permOf ρ m).rd b o) ∧ (∀ b o, ¬ (permOf ρ m.shut).wr b o) ∧ (∀ b, ¬ (permOf ρ m.shut).ob b) :=
  ⟨fun _ _ x => x, fun c o ⟨b, p, h1, _, _, _, h5⟩ => h5.2.elim (fun hf => absurd (h.dom b p h1) (Nat.not_lt.2 hf)) (fun hc => by cases hc), fun c ⟨b, p, h1, _, _, h4⟩ => absurd (h.dom b p h1) (Nat.not_lt.2 (Mem.ownsObj_spec h4).2)⟩
theorem ob_shape (h : Sim ρ m w) {c : Nat} (hc : (permOf ρ m).ob c) : w.shape? c = none := by
  obtain ⟨b, p, h1, rfl, hk, ho⟩ := hc
  unfold World.shape?
  rcases hk with hk | hk
  · obtain ⟨es', g, _⟩ := h.maps b p h1 hk ho
    rw [g]
  · obtain ⟨_, g⟩ := h.iters b p h1 hk ho
    rw [g]
/-- Whoever only makes blocks leaves all that was there. -/
theorem keeps_of_shut {R : Perm} (h : Chg R w.heap.size w w') (hw : ∀ b o, ¬ R.wr b o) (hob : ∀ b, ¬ R.ob b) {S : Perm} (hS : ∀ b o, S.rd b o → b < w.heap.size) (hSo : ∀ b, S.ob b → b < w.heap.size ∧ w.shape? b = none) : Keeps S w w' :=
  ⟨h.tape, h.os, h.output, h.size, fun b hb => h.shape b hb, fun b o hr => h.cell b o (hS b o hr) (hw b o), fun b o hb => h.froz b o hb, fun b hb => h.obj b (hSo b hb).1 (hob b) (hSo b hb).2⟩
theorem rd_lt (h : Sim ρ m w) {b o : Nat} (hr : (permOf ρ m).rd b o) : b < w.heap.size := by
  obtain ⟨_, p, h1, rfl, _⟩ := hr
  exact h.inw _ p h1
theorem ob_lt (h : Sim ρ m w) {b : Nat} (hr : (permOf ρ m).ob b) : b < w.heap.size := by
  obtain ⟨_, p, h1, rfl, _⟩ := hr
  exact h.inw _ p h1

/-- A block that the operation makes. -/
structure Makes (P : Program) (o : Oper) (ev : Operand → Value) (mk : Nat → Value) (kb : Blk) : Prop where
  form : MkForm mk
  op : ∀ m, opA P ev o m = some (mk m.next, m.alloc kb)
  kind : kb.kind = 1 ∨ kb.kind = 2
  es : kb.es = #[]
  vals : ∀ {ρ : Ren} {ev' : Operand → Value}, (∀ x ∈ o.op.operands, VRel ρ (ev x) (ev' x)) → ∀ v, some v ∈ kb.cs → ∃ u, VRel ρ v u
theorem mkForm_at {mk : Nat → Value} (h : MkForm mk) {β : Nat} {v' : Value} (hv : VRel ρ (mk β) v') : ∃ pl, ρ β = some pl ∧ ∀ {ρ₂ : Ren} {β₂ : Nat}, ρ₂ β₂ = some pl → VRel ρ₂ (mk β₂) v' := by
  rcases h with rfl | ⟨l, c, hc, rfl⟩ | rfl
  · obtain ⟨pl, h1, h2, rfl⟩ := vrel_ptr.1 hv
    exact ⟨pl, h1, fun h => vrel_ptr.2 ⟨pl, h, rfl, rfl⟩⟩
  · obtain ⟨pl, c', h1, h2, rfl, h3⟩ := vrel_slice.1 hv
    exact ⟨pl, h1, fun h => vrel_slice.2 ⟨pl, c', h, rfl, rfl, h3⟩⟩
  · obtain ⟨pl, h1, rfl⟩ := vrel_map.1 hv
    exact ⟨pl, h1, fun h => vrel_map.2 ⟨pl, h, rfl⟩⟩
theorem mkForm_blk {mk : Nat → Value} (h : MkForm mk) (β : Nat) : blkV (mk β) = some β := by
  rcases h with rfl | ⟨l, c, hc, rfl⟩ | rfl <;> rfl

section
variable {main : Bool} {J : JT} {b : Frame} {a : Act} {k : List Item} {cs : List Frame} {ops : Array Oper} {i : Nat} {rest : List Nat} {o : Oper}
theorem make_real (hJ : ∀ σ, Judge P main (J σ)) (ho : ops[i]? = some o) (hw : Region.wanted o (yielded ops a.tmps) = true) (hk : b.kind ≠ .early) (H : Hold P E w₀ σ ρ m w) {ev : Operand → Value}
    (hev : ∀ x ∈ o.op.operands, VRel ρ (ev x) (a.eval x)) {mk : Nat → Value} {kb : Blk} (hm : Makes P o ev mk kb) {β : Nat} (hβ : ρ β = none) (hlt : β < m.next) (hfl : m.floor ≤ β) (hblk : m.blk β = { kb with stamp := (m.blk β).stamp }) {l : Nat}
    (hn : ∀ ρ' v' w', ρ.le ρ' → (∀ b, b < m.next → b ≠ β → ρ' b = ρ b) → Hold P E w₀ σ ρ' m w' → VRel ρ' (mk β) v' → J σ l ((permOf ρ' m).or E) (G (b.at (a.put o.dst v') (.inRegion ops rest :: k)) cs) w') :
    J σ (l + 1) ((permOf ρ m).or E) (G (b.at a (.inRegion ops (i :: rest) :: k)) cs) w := by
  refine (hJ σ).step rfl fun w₁ hk₁ => ?_
  have H₁ := H.keeps hk₁
  have hs := H₁.sim.shut
  obtain ⟨p1, p2, p3⟩ := shut_perm H₁.sim
  obtain ⟨nx, w', hrun, ⟨ρ', hL, v', hv, hy⟩, hc, he⟩ := okS_sound (Nat.le_refl _) (opA_sound hs (Nat.le_refl _) hev (hm.op m.shut))
  obtain ⟨evs, hevs, hok⟩ := he #[]
  have hlist : ∀ e ∈ listed P b.fn a o w₁, EvOK (permOf ρ m) e := fun e hx => by
    have h1 := hok e (by have := mem_listed hx; rw [hevs] at this; simpa using this)
    unfold EvOK at h1 ⊢
    split at h1
    · refine ⟨h1.1, ?_⟩
      have h2 := h1.2
      split at h2
      · exact absurd h2 (p2 _ _)
      · rename_i hwr; rw [if_neg hwr]; exact p1 _ _ h2
    · exact absurd h1.1 (p3 _)
    · exact h1
    · exact h1
  obtain ⟨pl, hpl, hmv⟩ := mkForm_at hm.form hv
  have hnext : m.shut.next = m.next := rfl
  rw [hnext] at hpl
  have hK : Keeps ((permOf ρ m).or E) w₁ w' := keeps_of_shut hc p2 p3 (fun b o x => x.elim (rd_lt H₁.sim) fun y => (H₁.apart.cell b o y).1)
    (fun b x => x.elim (fun y => ⟨ob_lt H₁.sim y, ob_shape H₁.sim y⟩) fun y => ⟨(H₁.apart.obj b y).1, (H₁.apart.obj b y).2.2⟩)
  have H₂ := H₁.keeps hK
  have hbA : (m.shut.alloc kb).blk m.next = { kb with stamp := m.tick } := by rw [Mem.blk_alloc]; exact if_pos rfl
  have hth : touchesBlk m.hid m.next = false := by
    rcases ht : touchesBlk m.hid m.next with _ | _
    · rfl
    · unfold touchesBlk at ht
      obtain ⟨s, hs, h1⟩ := List.any_eq_true.1 ht
      simp only [Bool.and_eq_true, decide_eq_true_eq] at h1
      have := H₁.wf.hid s hs
      omega
  have hA : ∀ b p, ρ b = some p → (m.shut.alloc kb).blk b = m.blk b := fun b p hp => by
    rw [Mem.blk_alloc, if_neg (by have := H₁.sim.dom b p hp; show m.next ≠ b; omega)]; rfl
  have hne : ∀ b p, ρ b = some p → b ≠ m.next := fun b p hp => by have := H₁.sim.dom b p hp; omega
  have hkb : (m.blk β).kind = kb.kind ∧ (m.blk β).sz = kb.sz ∧ (m.blk β).pos = kb.pos ∧ (m.blk β).cs = kb.cs ∧ (m.blk β).es = kb.es ∧ (m.blk β).clock = kb.clock := by rw [hblk]; exact ⟨rfl, rfl, rfl, rfl, rfl, rfl⟩
  have hS : Sim (ρ.put β pl) m w' := H₂.sim.adopt hβ hlt hL.sim hpl hL.le hne (by rw [hbA]; exact ⟨hkb.1.symm, hkb.2.1.symm, hkb.2.2.1.symm, hkb.2.2.2.1.symm, hkb.2.2.2.2.1.symm, hkb.2.2.2.2.2.symm⟩)
    (by rw [hkb.1]; rcases hm.kind with h | h <;> omega) hA (Nat.le_refl _) ⟨hth, Nat.le_refl _⟩ (by rw [hkb.2.2.2.2.1]; exact hm.es) (fun v hv => hm.vals hev v (by rw [← hkb.2.2.2.1]; exact hv))
  -- what may be touched now is what might be touched, and what is new
  have hnew : ∀ x, pl.d ≤ x → x < pl.d + pl.room → (m.blk β).kind = 1 → m.okR β (x - pl.d) → w₁.heap.size ≤ pl.c := by
    intro x h1 h2 h3 h4
    have h5 : (permOf ρ' (m.shut.alloc kb)).rd pl.c x := ⟨m.next, pl, hpl, rfl, h1, h2, by
      unfold Mem.okR
      rw [hbA]
      refine ⟨hkb.1 ▸ h3, touches_covers hth _, ?_⟩
      rw [← hkb.2.2.2.1]; exact h4.2.2⟩
    rcases hL.within.rd _ _ h5 with ⟨b', p', g1, g2, g3, g4, g5⟩ | h6
    · exfalso
      have g5' : m.okR b' (x - p'.d) := g5
      have := hL.sim.sep b' m.next p' pl (hne _ _ g1) (hL.le _ _ g1) hpl (by rw [hA _ _ g1, g5'.1]; simp) (by rw [hbA]; show kb.kind ≠ 0; rw [← hkb.1, h3]; simp) g2
      omega
    · exact h6
  have hob : (m.blk β).kind = 2 → w₁.heap.size ≤ pl.c := by
    intro h3
    have h5 : (permOf ρ' (m.shut.alloc kb)).ob pl.c := ⟨m.next, pl, hpl, rfl, .inl (by rw [hbA]; show kb.kind = 2; rw [← hkb.1, h3]), by
      unfold Mem.ownsObj
      show (!touchesBlk m.hid m.next && decide (m.next ≤ m.next)) = true
      rw [hth]; simp⟩
    rcases hL.within.ob _ h5 with h6 | h6
    · exact absurd h6 (p3 _)
    · exact h6
  have hcase : ∀ b' p', ρ.put β pl b' = some p' → (b' = β ∧ p' = pl) ∨ (b' ≠ β ∧ ρ b' = some p') := by
    intro b' p' hp'
    unfold Ren.put at hp'
    split at hp'
    · rename_i e; exact .inl ⟨e, (Option.some.inj hp').symm⟩
    · rename_i e; exact .inr ⟨e, hp'⟩
  have hW : Within (permOf ρ m) (permOf (ρ.put β pl) m) w₁.heap.size := by
    refine ⟨fun c x => ?_, fun c x => ?_, fun c => ?_⟩
    · rintro ⟨b', p', g1, rfl, g3, g4, g5⟩
      rcases hcase _ _ g1 with ⟨rfl, rfl⟩ | ⟨_, q⟩
      · exact .inr (hnew x g3 g4 g5.1 g5)
      · exact .inl ⟨b', p', q, rfl, g3, g4, g5⟩
    · rintro ⟨b', p', g1, rfl, g3, g4, g5⟩
      rcases hcase _ _ g1 with ⟨rfl, rfl⟩ | ⟨_, q⟩
      · exact .inr (hnew x g3 g4 g5.1.1 g5.1)
      · exact .inl ⟨b', p', q, rfl, g3, g4, g5⟩
    · rintro ⟨b', p', g1, rfl, g3, g4⟩
      rcases hcase _ _ g1 with ⟨rfl, rfl⟩ | ⟨_, q⟩
      · rcases g3 with g3 | g3
        · exact .inr (hob g3)
        · rw [hkb.1] at g3; rcases hm.kind with h | h <;> omega
      · exact .inl ⟨b', p', q, rfl, g3, g4⟩
  have hC : Chg (permOf ρ m) w₁.heap.size w₁ w' := ⟨hc.tape, hc.os, hc.output, hc.size, hc.shape, fun b o hb _ => hc.cell b o hb (p2 b o), hc.froz, fun b hb _ hsh => hc.obj b hb (p3 b) hsh⟩
  have H₃ : Hold P E w₀ σ (ρ.put β pl) m w' := by
    refine ⟨hS, H₂.rest, ?_, fun g hg => let ⟨p, h1, h2⟩ := H₂.glob g hg; ⟨p, Ren.le_put hβ pl _ _ h1, h2⟩, ?_, H₂.wf, fun b' p' x g1 gb g3 g4 g5 he => ?_, fun c x he hr => (hW.rd c x hr).elim (H₁.ew c x he) fun hN => by have := (H₁.apart.cell c x (H₁.apart.wf c x he)).1; omega⟩
    · exact H₁.apart.within hW hc.size hc.shape
    · exact H₂.grp.above fun b hb => Ren.put_ne _ _ (by omega)
    · rcases hcase _ _ g1 with ⟨rfl, rfl⟩ | ⟨_, q⟩
      · have h8 := hnew x g3 g4 g5.1 g5
        have h9 := (H₁.apart.cell _ _ he).1
        omega
      · exact H₁.apc b' p' x q gb g3 g4 g5 he
  have hvv : VRel (ρ.put β pl) (mk β) v' := hmv (Ren.put_same ..)
  have hst : ∀ g', stepG P main (G (b.at a (.inRegion ops (i :: rest) :: k)) cs) w₁ = .go g' w' (listed P b.fn a o w₁) →
      Stepped P main ((permOf ρ m).or E) (G (b.at a (.inRegion ops (i :: rest) :: k)) cs) w₁ ((permOf (ρ.put β pl) m).or E) g' w' (listed P b.fn a o w₁) := fun g' hs =>
    ⟨hs, hC.or, fun e hx => .inl (hlist e hx).or, hW.or, (deafBehind_ok hlist _).symm, fun _ => H₃.low⟩
  have hnext' := hn (ρ.put β pl) v' w' (Ren.le_put hβ pl) (fun b _ hb => Ren.put_ne _ _ hb) H₃ hvv
  rcases hy with rfl | ⟨rfl, hu, rfl⟩
  · exact ⟨_, w', _, _, hst _ (stepG_value ho hw hk hrun), hnext'⟩
  · exfalso
    have := mkForm_blk hm.form m.shut.next
    rw [hu] at this; cases this
end
end
end Go.AM
/-
  REGIONS WHOSE ORDER IS DRAWN, 4: each light operation only looks, or only makes a block.
-/
set_option linter.unusedVariables false
set_option linter.unusedSimpArgs false
namespace Go.AM
open Go Go.Conc

def memKind (o : Oper) : Bool :=
  match o.op with
  | .load .. | .lookup .. | .slice .. | .alloc _ | .box .. | .buildSlice .. | .makeSlice .. | .makeMap .. => true
  | _ => false
inductive LightOk (P : Program) (o : Oper) (ev : Operand → Value) (v : Value) (m : Mem) : Prop
  | pure (h : ∀ m, opA P ev o m = some (v, m))
  | look (hl : looks o = true) (h : opA P ev o m = some (v, m))
  | make (mk : Nat → Value) (kb : Blk) (β : Nat) (hm : Makes P o ev mk kb) (hv : v = mk β) (hlt : β < m.next) (hfl : m.floor ≤ β) (hb : m.blk β = { kb with stamp := (m.blk β).stamp })

section
variable {P : Program} {o : Oper} {ev : Operand → Value} {v : Value} {m m' : Mem}
theorem cells_some {ρ : Ren} {x x' : Value} (h : VRel ρ x x') : ∀ v, some v ∈ x.cells.toList.map some → ∃ u, VRel ρ v u := by
  intro v hv
  obtain ⟨y, hy, e⟩ := List.mem_map.1 hv
  cases e
  obtain ⟨i, hi⟩ := List.mem_iff_getElem?.1 hy
  obtain ⟨u, _, hu⟩ := h.cells.get hi
  exact ⟨u, hu⟩
theorem list_some {ρ : Ren} {l l' : List Value} (h : Rel2 (VRel ρ) l l') : ∀ v, some v ∈ l.map some → ∃ u, VRel ρ v u := by
  intro v hv
  obtain ⟨y, hy, e⟩ := List.mem_map.1 hv
  cases e
  obtain ⟨i, hi⟩ := List.mem_iff_getElem?.1 hy
  obtain ⟨u, _, hu⟩ := h.get hi
  exact ⟨u, hu⟩
theorem LightOk.made {mk : Nat → Value} {kb : Blk} (hk : memKind o = true) (hm : Makes P o ev mk kb) (hw : Wf m) (h : opA P ev o m = some (v, m')) (hkl : kb.live := by refine And.intro ?_ (by simp); intro x hx; first | (cases hx; done) | (obtain ⟨y, _, hy⟩ := List.mem_map.1 hx; rw [← hy]; simp)) : Grow m m' ∧ LightOk P o ev v m' ∧ (memKind o = false → ∀ m, opA P ev o m = some (v, m)) := by
  rw [hm.op m] at h
  simp only [Option.some.injEq, Prod.mk.injEq] at h
  obtain ⟨rfl, rfl⟩ := h
  refine ⟨Grow.alloc _ _ hkl, .make mk kb m.next hm rfl (Nat.lt_succ_self _) hw.fl ?_, fun h => by rw [hk] at h; cases h⟩
  rw [Mem.blk_alloc, if_pos rfl]
theorem LightOk.still (h : opA P ev o m = some (v, m')) (h2 : ∀ m₂, opA P ev o m₂ = some (v, m₂)) : Grow m m' ∧ LightOk P o ev v m' ∧ (memKind o = false → ∀ m, opA P ev o m = some (v, m)) := by
  rw [h2 m] at h
  simp only [Option.some.injEq, Prod.mk.injEq] at h
  obtain ⟨_, rfl⟩ := h
  exact ⟨Grow.refl _, .pure h2, fun _ => h2⟩
theorem LightOk.looked (hk : memKind o = true) (hl : looks o = true) (h : opA P ev o m = some (v, m')) (h2 : m' = m) : Grow m m' ∧ LightOk P o ev v m' ∧ (memKind o = false → ∀ m, opA P ev o m = some (v, m)) := by
  subst h2
  exact ⟨Grow.refl _, .look hl h, fun h => by rw [hk] at h; cases h⟩

set_option maxHeartbeats 1000000 in
theorem light_ok (hl : light o = true) (hw : Wf m) (h : opA P ev o m = some (v, m')) : Grow m m' ∧ LightOk P o ev v m' ∧ (memKind o = false → ∀ m, opA P ev o m = some (v, m)) := by
  have still : ∀ {f : Option Value}, (∀ m, opA P ev o m = f.map fun v => (v, m)) → Grow m m' ∧ LightOk P o ev v m' ∧ (memKind o = false → ∀ m, opA P ev o m = some (v, m)) := fun {f} hf => by
    rw [hf] at h
    obtain ⟨rfl, rfl⟩ := map_eq.1 h
    exact ⟨Grow.refl _, .pure fun m => by rw [hf]; rfl, fun _ m => by rw [hf]; rfl⟩
  have one : ∀ {u : Value}, (∀ m, opA P ev o m = some (u, m)) → Grow m m' ∧ LightOk P o ev v m' ∧ (memKind o = false → ∀ m, opA P ev o m = some (v, m)) := fun {u} hf => still (f := some u) hf
  unfold light at hl
  split at hl
  · rename_i x ho; exact one fun m => by unfold opA; rw [ho]
  · rename_i x ho; exact one fun m => by unfold opA; rw [ho]
  · rename_i c x y ho
    cases hc : ev c with
    | bool t => exact one (u := if t then ev x else ev y) fun m => by unfold opA; rw [ho]; simp only [hc]
    | _ => unfold opA at h; rw [ho] at h; simp only [hc] at h; cases h
  · rename_i s x f ho; exact still fun m => by unfold opA; rw [ho]
  · rename_i s x f ho; exact still fun m => by unfold opA; rw [ho]
  · rename_i t i ho
    cases hc : ev t with
    | tuple vs => exact still (f := vs[i]?) fun m => by unfold opA; rw [ho]; simp only [hc]
    | _ => unfold opA at h; rw [ho] at h; simp only [hc] at h; cases h
  · rename_i u t x ho; exact still fun m => by unfold opA; rw [ho]
  · rename_i op t x y u ho
    cases op with
    | eql =>
      cases hc : eqNil P t (isConst x) (isConst y) (ev x) (ev y) with
      | some b => exact one (u := .bool b) fun m => by unfold opA; rw [ho]; simp only [hc]
      | none => exact still (f := plainOp P ev o) fun m => by unfold opA; rw [ho]; simp only [hc]
    | neq =>
      cases hc : eqNil P t (isConst x) (isConst y) (ev x) (ev y) with
      | some b => exact one (u := .bool (!b)) fun m => by unfold opA; rw [ho]; simp only [hc]
      | none => exact still (f := plainOp P ev o) fun m => by unfold opA; rw [ho]; simp only [hc]
    | _ => exact still fun m => by unfold opA; rw [ho]
  · rename_i t x ho
    cases hu : P.underlying t with
    | none => unfold opA at h; rw [ho] at h; simp only [hu] at h; cases h
    | some d =>
      cases d with
      | interface _ => unfold opA at h; rw [ho] at h; simp only [hu] at h; cases h
      | _ => exact one (u := .iface t (ev x)) fun m => by unfold opA; rw [ho]; simp only [hu]
  · rename_i fn f c ho; exact one fun m => by unfold opA; rw [ho]
  · rename_i x t a ok ho; exact still fun m => by unfold opA; rw [ho]
  · rename_i x ho
    cases hc : ev x with
    | pointer a => cases a with
      | none => unfold opA at h; rw [ho] at h; simp only [hc] at h; cases h
      | some a => exact one (u := .pointer (some a)) fun m => by unfold opA; rw [ho]; simp only [hc]
    | func fn first cap =>
      cases fn with
      | method name =>
        cases hf : (first[0]? : Option Value) with
        | none => unfold opA at h; rw [ho] at h; simp only [hc, hf] at h; cases h
        | some r =>
          by_cases hm : (methodA P r name).isSome = true
          · exact one (u := .func (.method name) first cap) fun m => by unfold opA; rw [ho]; simp only [hc, hf, hm, if_true]
          · unfold opA at h; rw [ho] at h; simp only [hc, hf, hm] at h; cases h
      | _ => unfold opA at h; rw [ho] at h; simp only [hc] at h; cases h
    | _ => unfold opA at h; rw [ho] at h; simp only [hc] at h; cases h
  · rename_i t x i ho
    cases hc : indexA P t (ev x) (ev i) with
    | some u => exact one (u := u) fun m => by unfold opA; rw [ho]; simp only [hc]
    | none => exact still (f := plainOp P ev o) fun m => by unfold opA; rw [ho]; simp only [hc]
  · rename_i t x i ho; exact still fun m => by unfold opA; rw [ho]
  · rename_i t x lo hi mx ho
    refine LightOk.looked (by unfold memKind; rw [ho]) (by unfold looks; rw [ho]) h ?_
    unfold opA at h
    rw [ho] at h
    cases mx with
    | some _ => cases h
    | none =>
      simp only [] at h
      split at h
      · simp only [Option.some.injEq, Prod.mk.injEq] at h; exact h.2.symm
      · exact (map_eq.1 h).2
  · rename_i t ps ho; exact still fun m => by unfold opA; rw [ho]
  · rename_i t x ho
    refine LightOk.looked (by unfold memKind; rw [ho]) (by unfold looks; rw [ho]) h ?_
    unfold opA at h
    rw [ho] at h
    exact (map_eq.1 h).2
  · rename_i t x k ok ho
    refine LightOk.looked (by unfold memKind; rw [ho]) (by unfold looks; rw [ho]) h ?_
    unfold opA at h
    rw [ho] at h
    exact (map_eq.1 h).2
  · rename_i e ho
    cases hz : zeroT P e with
    | none => unfold opA at h; rw [ho] at h; simp only [hz] at h; cases h
    | some z =>
      refine LightOk.made (by unfold memKind; rw [ho]) (mk := fun β => ptrTo β 0) (kb := { kind := 1, sz := 0, cs := z.cells.toList.map some, pos := 1 }) ⟨.inl rfl, fun m => by unfold opA; rw [ho]; simp only [hz]; rfl, .inl rfl, rfl, fun {ρ ev'} _ v hv => ?_⟩ hw h
      have := (zeroT_plain hz).1
      exact list_some (plain1_rel2 (ρ := ρ) this) v hv
  · rename_i e x ho
    refine LightOk.made (by unfold memKind; rw [ho]) (mk := fun β => ptrTo β 0) (kb := { kind := 1, sz := 0, cs := (ev x).cells.toList.map some, pos := 1 }) ⟨.inl rfl, fun m => by unfold opA; rw [ho]; rfl, .inl rfl, rfl, fun {ρ ev'} hev v hv => ?_⟩ hw h
    exact cells_some (hev x (by rw [ho]; simp [Op.operands])) v hv
  · rename_i t n ps ho
    have h0 := h
    unfold opA at h0
    rw [ho] at h0
    simp only [] at h0
    unfold buildSliceA at h0
    split at h0
    · rename_i e hu
      split at h0
      · rename_i size z hs hz
        split at h0
        · cases h0
        · rename_i hsz
          obtain ⟨r, hr, _⟩ := Option.map_eq_some_iff.1 h0
          refine LightOk.made (by unfold memKind; rw [ho]) (mk := fun β => .slice (some ⟨β, 0, none⟩) n n) (kb := { kind := 1, sz := size, cs := r.toList.map some }) ⟨.inr (.inl ⟨n, n, by omega, rfl⟩), fun m => ?_, .inl rfl, rfl, fun {ρ ev'} hev v hv => ?_⟩ hw h
          · unfold opA
            rw [ho]
            simp only []
            unfold buildSliceA
            simp only [hu, hs, hz]
            rw [if_neg hsz, hr]
            rfl
          · have hp := parts_rel (ρ := ρ) (ev := ev) (ev' := ev') (ps := ps) (fun x hx => hev x (by rw [ho]; exact hx))
            obtain ⟨r', _, hrel⟩ := fill_rel hp (range_rel hz _) hr
            exact list_some hrel v hv
      · cases h0
    · cases h0
  · rename_i t l c ho
    have h0 := h
    unfold opA at h0
    rw [ho] at h0
    simp only [] at h0
    unfold makeSliceA at h0
    split at h0
    · rename_i e l' c' hu hel hec
      split at h0
      · rename_i i z hi hz
        split at h0
        · rename_i hc
          refine LightOk.made (by unfold memKind; rw [ho]) (mk := fun β => .slice (some ⟨β, 0, none⟩) l'.toNat c'.toNat) (kb := { kind := 1, sz := i.size, cs := (((Array.range (c'.toNat * i.size)).map (z.cells[· % z.cells.size]!)).toList.map some) }) ⟨.inr (.inl ⟨l'.toNat, c'.toNat, by unfold INF; omega, rfl⟩), fun m => ?_, .inl rfl, rfl, fun {ρ ev'} hev v hv => ?_⟩ hw h
          · unfold opA
            rw [ho]
            simp only []
            unfold makeSliceA
            rw [hel, hec]
            simp only [hu, hi, hz]
            rw [if_pos hc]
          · exact list_some (range_rel (ρ := ρ) hz _) v hv
        · cases h0
      · cases h0
    · cases h0
  · rename_i t r ho
    cases r with
    | some _ => unfold opA at h; rw [ho] at h; cases h
    | none =>
      refine LightOk.made (by unfold memKind; rw [ho]) (mk := fun β => .map (some β)) (kb := { kind := 2 }) ⟨.inr (.inr rfl), fun m => by unfold opA; rw [ho], .inr rfl, rfl, fun {ρ ev'} hev v hv => by cases hv⟩ hw h
  · rename_i b as ats ho
    have hml : b = .min ∨ b = .max ∨ b = .len := by
      cases b <;> first | exact .inl rfl | exact .inr (.inl rfl) | exact .inr (.inr rfl) | cases hl
    have hpl : (∀ m, opA P ev o m = (plainOp P ev o).map fun v => (v, m)) → Grow m m' ∧ LightOk P o ev v m' ∧ (memKind o = false → ∀ m, opA P ev o m = some (v, m)) := fun hf => still hf
    rcases hml with rfl | rfl | rfl
    · exact hpl fun m => by unfold opA; rw [ho]
    · exact hpl fun m => by unfold opA; rw [ho]
    · have h0 := h
      unfold opA at h0
      rw [ho] at h0
      simp only [] at h0
      split at h0
      · rename_i e1 _; cases e1
      · rename_i e1 _; cases e1
      · rename_i e1 _; cases e1
      · rename_i x _ hx
        cases hs : (match (ats[0]?).bind P.underlying, ev x with | some (.slice _), .slice _ n _ => some n | _, _ => none : Option Nat) with
        | some n =>
          refine one (u := goInt n) fun m => ?_
          unfold opA
          rw [ho]
          simp only [hx]
          split at hs
          · rename_i h1 h2
            simp only [Option.some.injEq] at hs
            subst hs
            simp only [h1, h2]
          · cases hs
        | none =>
          refine hpl fun m => ?_
          unfold opA
          rw [ho]
          simp only [hx]
          split at hs
          · cases hs
          · rename_i hn
            split
            · rename_i h1 h2
              exact absurd h2 (fun h2 => hn _ _ _ _ h1 h2)
            · rfl
      · rename_i e1; cases e1
      · rename_i e1; cases e1
      · cases h0
  · cases hl
end
end Go.AM
/-
  REGIONS WHOSE ORDER IS DRAWN, 5: the abstract machine's own run of such a region, told stage by stage.
-/
set_option linter.unusedVariables false
set_option linter.unusedSimpArgs false
namespace Go.AM
open Go Go.Conc

/-! ### it may be carried out later -/
section
variable {P : Program} {o : Oper} {ev : Operand → Value} {v : Value} {m m' : Mem}
theorem sliceA_more {t : TypeId} {x : Value} {lo hi : Option Value} {u : Value} (hb : ∀ b, blkV x = some b → (m.blk b).kind ≠ 0 → m'.blk b = m.blk b) : sliceA P t x lo hi m = some u → sliceA P t x lo hi m' = some u := by
  unfold sliceA
  split
  · rename_i b o len cap hu
    split
    · rename_i l h' s' e1 e2 e3
      split
      · intro h
        split at h
        · rename_i hcc
          rw [if_pos]
          · exact h
          · refine ⟨hcc.1, hcc.2.1, ?_⟩
            rcases hcc.2.2 with h0 | h0
            · exact .inl h0
            · refine .inr ?_
              rw [hb b rfl (by omega)]
              exact h0
        · cases h
      · exact id
    · exact id
  · exact id
  · exact id
  · exact id
theorem LightOk.grow (h : LightOk P o ev v m) (hw : Wf m) (g : Grow m m') : LightOk P o ev v m' := by
  have hlt : ∀ b, (m.blk b).kind ≠ 0 → b < m.next := fun b hb => by
    rcases Nat.lt_or_ge b m.next with h1 | h1
    · exact h1
    · exact absurd (hw.far b h1) hb
  cases h with
  | pure h => exact .pure h
  | make mk kb β hm hv hl hfl hb => exact .make mk kb β hm hv (Nat.lt_of_lt_of_le hl g.next) (by rw [g.floor]; exact hfl) (by rw [g.blk β hl]; exact hb)
  | look hl h =>
    refine .look hl ?_
    unfold looks at hl
    split at hl
    · rename_i t x ho
      unfold opA at h ⊢
      rw [ho] at h ⊢
      simp only [] at h ⊢
      have h1 := (map_eq.1 h).1
      obtain ⟨b, c, n, hx, hk, hme, hat⟩ := loadA_at h1
      rw [hat m' (g.blk b (hlt b (by omega))) (.inr (by rw [g.hid]; exact hme))]
      rfl
    · rename_i t x k ok ho
      unfold opA at h ⊢
      rw [ho] at h ⊢
      simp only [] at h ⊢
      have h1 := (map_eq.1 h).1
      rcases lookupA_at h1 with h2 | ⟨b, hx, hk, hown, hat⟩
      · rw [h2 m']; rfl
      · rw [hat m' (g.blk b (hlt b (by omega))) (.inr (by unfold Mem.ownsObj at hown ⊢; rw [g.hid, g.home]; exact hown))]
        rfl
    · rename_i t x lo hi mx ho
      unfold opA at h ⊢
      rw [ho] at h ⊢
      cases mx with
      | some _ => cases h
      | none =>
        simp only [] at h ⊢
        have key : ∀ u, sliceA P t (ev x) (lo.map ev) (hi.map ev) m = some u → sliceA P t (ev x) (lo.map ev) (hi.map ev) m' = some u := by
          exact fun u => sliceA_more fun b hb hk => g.blk b (hlt b hk)
        split at h
        · rename_i u hu
          rw [key u hu]
          simp only [Option.some.injEq, Prod.mk.injEq] at h ⊢
          exact ⟨h.1, trivial⟩
        · rename_i hu
          have hp := (map_eq.1 h).1
          have hpl : plain (ev x) = true := by
            unfold plainOp at hp
            split at hp
            · rename_i hall
              exact Array.all_eq_true_iff_forall_mem.1 hall x (by rw [ho]; simp [Op.operands])
            · cases hp
          have hnb : ∀ b, blkV (ev x) = some b → False := fun b hb => by
            cases hx : ev x with
            | pointer a => rw [hx] at hb hpl; cases a <;> simp [blkV, plain, plain1] at hb hpl
            | slice a l c => rw [hx] at hb hpl; cases a <;> simp [blkV, plain, plain1] at hb hpl
            | map a => rw [hx] at hb hpl; cases a <;> simp [blkV, plain, plain1] at hb hpl
            | _ => rw [hx] at hb; cases hb
          rw [sliceA_at (m := m) (m' := m') fun b hb => (hnb b hb).elim, hu]
          simp only [hp]
          rfl
    · cases hl
theorem looks_still {m₂ : Mem} (hl : looks o = true) (h : opA P ev o m = some (v, m₂)) : m₂ = m := by
  unfold looks at hl
  split at hl
  · rename_i t x ho
    unfold opA at h; rw [ho] at h
    exact (map_eq.1 h).2
  · rename_i t x k ok ho
    unfold opA at h; rw [ho] at h
    exact (map_eq.1 h).2
  · rename_i t x lo hi mx ho
    unfold opA at h; rw [ho] at h
    cases mx with
    | some _ => cases h
    | none =>
      simp only [] at h
      split at h
      · simp only [Option.some.injEq, Prod.mk.injEq] at h; exact h.2.symm
      · exact (map_eq.1 h).2
  · cases hl
theorem watchV_not (hl : looks o = false) : watchV o ev v = v := by
  unfold watchV
  split
  · rename_i ho; unfold looks at hl; rw [ho] at hl; cases hl
  · rename_i ho; unfold looks at hl; rw [ho] at hl; cases hl
  · rename_i ho; unfold looks at hl; rw [ho] at hl; cases hl
  · rfl
theorem LightOk.check (h : LightOk P o ev v m) (hn : m.next ≤ m'.next) (hb : ∀ b, blkV (watchV o ev v) = some b → m'.blk b = m.blk b) (hl : looks o = true → (opA P ev o m').isSome = true)
    (hf : looks o = false → ∀ b, blkV v = some b → m'.floor ≤ b) : LightOk P o ev v m' := by
  cases h with
  | pure h => exact .pure h
  | make mk kb β hm hv hlt hfl hbk =>
    cases hlk : looks o with
    | true =>
      have := looks_still hlk (hm.op m)
      have h2 := congrArg Mem.next this
      simp at h2
    | false =>
      have hβ : blkV v = some β := by rw [hv]; exact mkForm_blk hm.form β
      rw [watchV_not hlk] at hb
      exact .make mk kb β hm hv (Nat.lt_of_lt_of_le hlt hn) (hf hlk β hβ) (by rw [hb β hβ]; exact hbk)
  | look hlk h =>
    have hs := hl hlk
    refine .look hlk ?_
    have hlk' := hlk
    unfold looks at hlk'
    split at hlk'
    · rename_i t x ho
      have hwv : watchV o ev v = ev x := by unfold watchV; rw [ho]
      rw [hwv] at hb
      unfold opA at h hs ⊢
      rw [ho] at h hs ⊢
      simp only [Option.isSome_map] at h hs ⊢
      have h1 := (map_eq.1 h).1
      obtain ⟨b, c, n, hx, hk, hme, hat⟩ := loadA_at h1
      rw [hat m' (hb b (by rw [hx]; rfl)) (.inl hs)]
      rfl
    · rename_i t x k ok ho
      have hwv : watchV o ev v = ev x := by unfold watchV; rw [ho]
      rw [hwv] at hb
      unfold opA at h hs ⊢
      rw [ho] at h hs ⊢
      simp only [Option.isSome_map] at h hs ⊢
      have h1 := (map_eq.1 h).1
      rcases lookupA_at h1 with h2 | ⟨b, hx, hk, hown, hat⟩
      · rw [h2 m']; rfl
      · rw [hat m' (hb b (by rw [hx]; rfl)) (.inl hs)]
        rfl
    · rename_i t x lo hi mx ho
      have hwv : watchV o ev v = ev x := by unfold watchV; rw [ho]
      rw [hwv] at hb
      unfold opA at h ⊢
      rw [ho] at h ⊢
      cases mx with
      | some _ => cases h
      | none =>
        simp only [] at h ⊢
        rw [sliceA_at (m := m) (m' := m') hb]
        split at h
        · rename_i u hu
          simp only [Option.some.injEq, Prod.mk.injEq] at h ⊢
          exact ⟨h.1, trivial⟩
        · rename_i hu
          rw [(map_eq.1 h).1]
          rfl
    · cases hlk'
end

/-! ### the run, turn by turn -/
def dstOf (ops : Array Oper) (i : Nat) : Option Tmp := (ops[i]?).bind (·.dst)
structure RegOk (ops : Array Oper) (bef : Array Nat) (nt : Nat) : Prop where
  ord : OrdOk ops bef nt
  nt : nt ≤ 512
  uniq : ∀ i j d, i ≠ j → dstOf ops i = some d → dstOf ops j ≠ some d
  sees : ∀ (i j : Nat) (o : Oper) (d : Tmp), ops[i]? = some o → d ∈ seesT ops o → j < ops.size → dstOf ops j = some d → B bef i j ∨ B bef j i
  chain : ∀ (k l a b : Nat), k < l → (heavies ops)[k]? = some a → (heavies ops)[l]? = some b → B bef b a
  steady : ∀ i, crossing ops bef (heavies ops) i = true → ∀ o, ops[i]? = some o → ∀ d ∈ seesT ops o, ∀ j, dstOf ops j = some d → B bef i j

section
variable {ops : Array Oper} {bef : Array Nat} {nt : Nat}
theorem dst_lt {i : Nat} {d : Tmp} (h : dstOf ops i = some d) : i < ops.size := by
  unfold dstOf at h
  obtain ⟨o, ho, _⟩ := Option.bind_eq_some_iff.1 h
  exact lt_of_get ho
theorem mem_heavies {i : Nat} : i ∈ heavies ops ↔ ∃ o, ops[i]? = some o ∧ light o = false := by
  unfold heavies
  rw [List.mem_filter, List.mem_range]
  constructor
  · rintro ⟨h1, h2⟩
    rw [Array.getElem?_eq_getElem h1] at h2
    exact ⟨_, Array.getElem?_eq_getElem h1, by simpa using h2⟩
  · rintro ⟨o, ho, hl⟩
    exact ⟨lt_of_get ho, by rw [ho]; simp [hl]⟩
theorem heavies_sorted : (heavies ops).Pairwise (· < ·) := List.Pairwise.filter _ List.pairwise_lt_range
theorem chain_of {bef : Array Nat} (ht : ∀ {i j k : Nat}, i < ops.size → B bef i j → B bef j k → B bef i k) : ∀ {l : List Nat}, (∀ x ∈ l, x < ops.size) → chainOk bef l = true → ∀ (k m a b : Nat), k < m → l[k]? = some a → l[m]? = some b → B bef b a
  | [], _, _, k, m, a, b, _, h, _ => by simp at h
  | [x], _, _, k, m, a, b, hkm, h1, h2 => by
    cases m with
    | zero => omega
    | succ m => simp at h2
  | x :: y :: l, hl, hc, k, m, a, b, hkm, h1, h2 => by
    simp only [chainOk, Bool.and_eq_true] at hc
    have hxy : B bef y x := hc.1
    have ih := chain_of ht (l := y :: l) (fun z hz => hl z (by simp [hz])) hc.2
    cases m with
    | zero => omega
    | succ m =>
      simp only [List.getElem?_cons_succ] at h2
      cases k with
      | succ k =>
        simp only [List.getElem?_cons_succ] at h1
        exact ih k m a b (by omega) h1 h2
      | zero =>
        simp only [List.getElem?_cons_zero, Option.some.injEq] at h1
        subst h1
        cases m with
        | zero => simp only [List.getElem?_cons_zero, Option.some.injEq] at h2; subst h2; exact hxy
        | succ m =>
          have := ih 0 (m + 1) y b (by omega) rfl h2
          refine ht (hl b ?_) this hxy
          exact List.mem_cons_of_mem _ (List.mem_of_getElem? h2)
theorem regOk_of (hnt : nt ≤ 512) (h1 : chainOk (Region.before ops) (heavies ops) = true) (h2 : tidy ops (Region.before ops) = true) (h3 : orderOk ops (Region.before ops) nt = true) (h4 : steady ops (Region.before ops) (heavies ops) = true) : RegOk ops (Region.before ops) nt := by
  have hord := ordOk_of h3
  have htidy : ∀ (i j : Nat) (x y : Oper) (d : Tmp), ops[i]? = some x → ops[j]? = some y → y.dst = some d → (i = j ∨ x.dst ≠ some d) ∧ (d ∈ seesT ops x → B (Region.before ops) i j ∨ B (Region.before ops) j i) := by
    intro i j x y d hx hy hd
    have a1 := List.all_eq_true.1 h2 i (List.mem_range.2 (lt_of_get hx))
    have a2 := List.all_eq_true.1 a1 j (List.mem_range.2 (lt_of_get hy))
    simp only [hx, hy, hd, Bool.and_eq_true, Bool.or_eq_true, beq_iff_eq, bne_iff_ne, Bool.not_eq_true'] at a2
    refine ⟨a2.1, fun hs => ?_⟩
    rcases a2.2 with h | h
    · have : (seesT ops x).contains d = true := by simpa using hs
      rw [this] at h; cases h
    · exact h
  refine ⟨hord, hnt, fun i j d hij hi hj => ?_, fun i j o d ho hd hjs hj => ?_, fun k l a b => ?_, fun i hc o ho d hd j hj => ?_⟩
  · unfold dstOf at hi hj
    obtain ⟨x, hx, hxd⟩ := Option.bind_eq_some_iff.1 hi
    obtain ⟨y, hy, hyd⟩ := Option.bind_eq_some_iff.1 hj
    exact (htidy i j x y d hx hy hyd).1.elim hij fun h => h hxd
  · unfold dstOf at hj
    obtain ⟨y, hy, hyd⟩ := Option.bind_eq_some_iff.1 hj
    exact (htidy i j o y d ho hy hyd).2 hd
  · exact chain_of (fun a b c => hord.trans a b c) (fun x hx => by obtain ⟨o, ho, _⟩ := mem_heavies.1 hx; exact lt_of_get ho) h1 k l a b
  · unfold dstOf at hj
    obtain ⟨y, hy, hyd⟩ := Option.bind_eq_some_iff.1 hj
    have a1 := List.all_eq_true.1 h4 i (List.mem_range.2 (lt_of_get ho))
    simp only [hc, Bool.not_true, Bool.false_or, ho] at a1
    have a2 := List.all_eq_true.1 a1 j (List.mem_range.2 (lt_of_get hy))
    simp only [hy, hyd, Bool.or_eq_true, Bool.not_eq_true'] at a2
    rcases a2 with h | h
    · have : (seesT ops o).contains d = true := by simpa using hd
      rw [this] at h; cases h
    · exact h

/-- How many of a list: where those come first. -/
theorem prefix_count {p : Nat → Bool} : ∀ {l : List Nat}, (∀ (k m a b : Nat), k < m → l[k]? = some a → l[m]? = some b → p b = true → p a = true) → ∀ (k x : Nat), l[k]? = some x → (p x = true ↔ k < (l.filter p).length)
  | [], _, k, x, h => by simp at h
  | y :: l, hd, k, x, h => by
    have ih := prefix_count (l := l) (p := p) fun k m a b hkm h1 h2 => hd (k + 1) (m + 1) a b (by omega) (by simpa using h1) (by simpa using h2)
    rw [List.filter_cons]
    cases hy : p y with
    | true =>
      simp only [if_true, List.length_cons]
      cases k with
      | zero => simp only [List.getElem?_cons_zero, Option.some.injEq] at h; subst h; simp [hy]
      | succ k =>
        simp only [List.getElem?_cons_succ] at h
        rw [ih k x h]; omega
    | false =>
      have hno : ∀ z ∈ l, p z = false := fun z hz => by
        obtain ⟨m, hm⟩ := List.mem_iff_getElem?.1 hz
        cases hpz : p z with
        | false => rfl
        | true => rw [hd 0 (m + 1) y z (by omega) rfl (by simpa using hm) hpz] at hy; cases hy
      have hnil : l.filter p = [] := List.filter_eq_nil_iff.2 fun z hz => by rw [hno z hz]; simp
      simp only [Bool.false_eq_true, if_false, hnil, List.length_nil, Nat.not_lt_zero, iff_false]
      cases k with
      | zero => simp only [List.getElem?_cons_zero, Option.some.injEq] at h; subst h; simp [hy]
      | succ k =>
        simp only [List.getElem?_cons_succ] at h
        rw [hno x (List.mem_of_getElem? h)]; simp
theorem RegOk.from_iff (h : RegOk ops bef nt) {i k x : Nat} (hi : i < ops.size) (hx : (heavies ops)[k]? = some x) : B bef i x ↔ k < fromA bef (heavies ops) i := by
  unfold fromA
  exact prefix_count (p := fun h => (bef.getD i 0).testBit h) (fun k m a b hkm h1 h2 hb => h.ord.trans hi hb (h.chain k m a b hkm h1 h2)) k x hx
theorem RegOk.till_iff (h : RegOk ops bef nt) {i k x : Nat} (hx : (heavies ops)[k]? = some x) : B bef x i ↔ tillA bef (heavies ops) i ≤ k := by
  have := prefix_count (p := fun h => !(bef.getD h 0).testBit i) (l := heavies ops) (fun k m a b hkm h1 h2 hb => by
    have hlt : b < ops.size := by obtain ⟨o, ho, _⟩ := mem_heavies.1 (List.mem_of_getElem? h2); exact lt_of_get ho
    cases ha : (bef.getD a 0).testBit i with
    | false => simp
    | true =>
      have : B bef b i := h.ord.trans hlt (h.chain k m a b hkm h1 h2) ha
      unfold B at this
      rw [this] at hb; cases hb) k x hx
  unfold B tillA
  cases hb : (bef.getD x 0).testBit i with
  | true => rw [hb] at this; simp only [Bool.not_true, Bool.false_eq_true, false_iff, Nat.not_lt] at this; exact ⟨fun _ => this, fun _ => rfl⟩
  | false => rw [hb] at this; simp only [Bool.not_false, true_iff] at this; exact ⟨fun h => (by cases h), fun h => absurd this (Nat.not_lt.2 h)⟩
theorem RegOk.from_till (h : RegOk ops bef nt) {i : Nat} (hi : i < ops.size) : fromA bef (heavies ops) i ≤ tillA bef (heavies ops) i := by
  rcases Nat.lt_or_ge (tillA bef (heavies ops) i) (fromA bef (heavies ops) i) with hlt | hge
  · have hle : fromA bef (heavies ops) i ≤ (heavies ops).length := List.length_filter_le _ _
    have hx := List.getElem?_eq_getElem (show tillA bef (heavies ops) i < (heavies ops).length by omega)
    have h1 := (h.from_iff hi hx).2 hlt
    have h2 := (h.till_iff (i := i) hx).2 (Nat.le_refl _)
    have h3 := h.ord.trans hi h1 h2
    have := h.ord.lt hi h3
    omega
  · exact hge
theorem RegOk.from_mono (h : RegOk ops bef nt) {i j : Nat} (hi : i < ops.size) (hb : B bef i j) : fromA bef (heavies ops) j ≤ fromA bef (heavies ops) i := by
  have hj := h.ord.lt hi hb
  rcases Nat.lt_or_ge (fromA bef (heavies ops) i) (fromA bef (heavies ops) j) with hlt | hge
  · have hle : fromA bef (heavies ops) j ≤ (heavies ops).length := List.length_filter_le _ _
    have hx := List.getElem?_eq_getElem (show fromA bef (heavies ops) i < (heavies ops).length by omega)
    have h1 := (h.from_iff (by omega) hx).2 hlt
    have := (h.from_iff hi hx).1 (h.ord.trans hi hb h1)
    omega
  · exact hge
end
end Go.AM
/-
  REGIONS WHOSE ORDER IS DRAWN, 6: the abstract machine's run: one stage's light operations; the checks behind a heavy one.
-/
set_option linter.unusedVariables false
set_option linter.unusedSimpArgs false
namespace Go.AM
open Go Go.Conc

section
variable {P : Program} {ops : Array Oper} {bef : Array Nat} {nt : Nat} {call : CallT} {r : Ss} {tm0 : Tm}

def TurnOk (P : Program) (nt : Nat) (ops : Array Oper) (call : CallT) (t : Turn) (rest : OpsF) (tm : Tm) (m : Mem) (df : Df) (r : Ss) : Prop :=
  match t with
  | (0, i, slot) => ∃ tm' m' df', OneDoes P call nt ops i tm m df tm' m' df' ∧ rest call tm' m' df' = some r ∧ (slot ≠ 0 → m.pend = [])
  | (1, i, slot) => ∃ o x, ops[i]? = some o ∧ watchO o = some x ∧ nt ≤ slot ∧ slot < 512 ∧ rest call (tput slot (if wantedT ops o tm then stampV m (evT tm x) else undef) tm) m df = some r
  | (_, i, slot) => ∃ o x, ops[i]? = some o ∧ watchO o = some x ∧ rest call tm m df = some r ∧ (wantedT ops o tm = true → sameV (tget slot tm) (stampV m (evT tm x)) = true ∧
      (looks o = true → (opA P (evT tm) o m).isSome = true) ∧ (looks o = false → ∀ b, blkV (evT tm x) = some b → m.floor ≤ b))
theorem turn_inv {t : Turn} {rest F : OpsF} (h : turnF P nt ops t rest = some F) {tm : Tm} {m : Mem} {df : Df} (hf : F call tm m df = some r) : TurnOk P nt ops call t rest tm m df r := by
  obtain ⟨k, i, slot⟩ := t
  match k with
  | 0 =>
    unfold turnF at h
    simp only [] at h
    split at h
    · rename_i f hF
      cases h
      cases slot with
      | zero =>
        obtain ⟨tm', m', df', h1, h2⟩ := oneF_sound hF hf
        exact ⟨tm', m', df', h1, h2, fun h => absurd rfl h⟩
      | succ n =>
        replace hf : pendF f call tm m df = some r := hf
        unfold pendF at hf
        split at hf
        · rename_i hp
          obtain ⟨tm', m', df', h1, h2⟩ := oneF_sound hF hf
          exact ⟨tm', m', df', h1, h2, fun _ => hp⟩
        · cases hf
    · cases h
  | 1 =>
    unfold turnF at h
    simp only [] at h
    split at h
    · rename_i o ho
      split at h
      · rename_i x hx
        split at h
        · rename_i hc
          cases h
          simp only [Bool.and_eq_true, ble_d, blt_d, decide_eq_true_eq] at hc
          exact ⟨o, x, ho, hx, hc.1.2, hc.2, hf⟩
        · cases h
      · cases h
    · cases h
  | k + 2 =>
    unfold turnF at h
    simp only [] at h
    split at h
    · rename_i o ho
      split at h
      · rename_i x hx
        cases h
        unfold checkF at hf
        refine ⟨o, x, ho, hx, ?_⟩
        cases hw : wantedT ops o tm with
        | false =>
          rw [hw] at hf
          exact ⟨hf, fun h => by cases h⟩
        | true =>
          rw [hw] at hf
          simp only [if_true] at hf
          cases hl : looks o with
          | true =>
            simp only [hl, if_true] at hf
            split at hf
            · rename_i hc
              simp only [Bool.and_eq_true] at hc
              exact ⟨hf, fun _ => ⟨hc.1, fun _ => hc.2, fun h => by cases h⟩⟩
            · cases hf
          | false =>
            simp only [hl, Bool.false_eq_true, if_false] at hf
            cases hsv : sameV (tget slot tm) (stampV m (evT tm x)) with
            | false =>
              rw [hsv] at hf
              cases hf
            | true =>
              rw [hsv] at hf
              cases hbk : blkV (evT tm x) with
              | none =>
                rw [hbk] at hf
                exact ⟨hf, fun _ => ⟨rfl, fun h => (by cases h), fun _ b hb => by cases hb⟩⟩
              | some b =>
                rw [hbk] at hf
                simp only [Bool.true_and] at hf
                by_cases hle : m.floor.ble b = true
                · rw [if_pos hle] at hf
                  refine ⟨hf, fun _ => ⟨rfl, fun h => (by cases h), fun _ b' hb => ?_⟩⟩
                  cases hb
                  simpa [ble_d] using hle
                · rw [if_neg hle] at hf
                  cases hf
      · cases h
    · cases h
theorem turns_cons {t : Turn} {T : List Turn} {F : OpsF} (h : turnsF P nt ops (t :: T) = some F) : ∃ rest, turnsF P nt ops T = some rest ∧ turnF P nt ops t rest = some F := by
  unfold turnsF at h
  split at h
  · rename_i rest hr; exact ⟨rest, hr, h⟩
  · cases h
theorem one_tm {i : Nat} {tm tm' : Tm} {m m' : Mem} {df df' : Df} (h : OneDoes P call nt ops i tm m df tm' m' df') : ∃ v, tm' = putT (dstOf ops i) v tm ∧ ∀ d, dstOf ops i = some d → d < 512 := by
  obtain ⟨o, ho, hg, _, h⟩ := h
  have e : dstOf ops i = o.dst := by unfold dstOf; rw [ho]; rfl
  rw [e]
  rcases h with ⟨_, v, _, rfl⟩ | ⟨_, rfl, _⟩
  · exact ⟨v, rfl, hg.2⟩
  · exact ⟨undef, rfl, hg.2⟩
theorem tget_putT {d : Option Tmp} {t : Nat} (hd : ∀ x, d = some x → x < 512) (ht : t < 512) (v : Value) (tm : Tm) : tget t (putT d v tm) = if d = some t then v else tget t tm := by
  unfold putT
  cases d with
  | none => simp
  | some d => simp only [tget_tput (hd d rfl) ht, Option.some.injEq]
/-- What the turns to come don't lay stays. -/
theorem turns_keep (hnt : nt ≤ 512) : ∀ {T : List Turn} {F : OpsF} {tm : Tm} {m : Mem} {df : Df}, turnsF P nt ops T = some F → F call tm m df = some r → ∀ t, t < nt → (∀ i x, (0, i, x) ∈ T → dstOf ops i ≠ some t) → tget t r.tm = tget t tm
  | [], F, tm, m, df, h, hf, t, ht, _ => by
    unfold turnsF at h
    cases h
    unfold endF at hf
    cases hf; rfl
  | u :: T, F, tm, m, df, h, hf, t, ht, hn => by
    obtain ⟨rest, hr, hu⟩ := turns_cons h
    have hi := turn_inv hu hf
    have ih := fun {tm' m' df'} (hf' : rest call tm' m' df' = some r) => turns_keep hnt hr hf' t ht fun i x hx => hn i x (List.mem_cons_of_mem _ hx)
    obtain ⟨k, i, slot⟩ := u
    match k with
    | 0 =>
      obtain ⟨tm', m', df', ho, hf', _⟩ := hi
      rw [ih hf']
      obtain ⟨v, rfl, hd⟩ := one_tm ho
      rw [tget_putT hd (by omega), if_neg (hn i slot (by simp))]
    | 1 =>
      obtain ⟨o, x, _, _, h1, h2, hf'⟩ := hi
      rw [ih hf', tget_tput h2 (by omega), if_neg (by omega)]
    | k + 2 =>
      obtain ⟨o, x, _, _, hf', _⟩ := hi
      exact ih hf'

/-- S has been carried out: what lies in the variables. -/
def Ex (ops : Array Oper) (nt : Nat) (r : Ss) (tm0 : Tm) (S : Nat → Prop) (tm : Tm) : Prop :=
  ∀ t, t < nt → (∀ i, S i → dstOf ops i = some t → tget t tm = tget t r.tm) ∧ ((∀ i, S i → dstOf ops i ≠ some t) → tget t tm = tget t tm0)
/-- What operation i sees. -/
def Seen (ops : Array Oper) (bef : Array Nat) (nt : Nat) (r : Ss) (tm0 : Tm) (i : Nat) (tm : Tm) : Prop :=
  ∀ o, ops[i]? = some o → ∀ t ∈ seesT ops o, t < nt → (∀ j, B bef i j → dstOf ops j = some t → tget t tm = tget t r.tm) ∧ ((∀ j, B bef i j → dstOf ops j ≠ some t) → tget t tm = tget t tm0)
theorem seen_of (R : RegOk ops bef nt) {S : Nat → Prop} {tm : Tm} (h : Ex ops nt r tm0 S tm) {i : Nat} (h1 : ∀ j, B bef i j → S j) (h2 : ∀ j, S j → ¬ B bef j i) : Seen ops bef nt r tm0 i tm := by
  intro o ho t ht hlt
  refine ⟨fun j hj hd => (h t hlt).1 j (h1 j hj) hd, fun hn => (h t hlt).2 fun j hj hd => ?_⟩
  rcases R.sees i j o t ho ht (dst_lt hd) hd with hb | hb
  · exact hn j hb hd
  · exact h2 j hj hb
/-- Two that see the same. -/
theorem Seen.same {i : Nat} {tm tm' : Tm} (h : Seen ops bef nt r tm0 i tm) (h' : Seen ops bef nt r tm0 i tm') {o : Oper} (ho : ops[i]? = some o) {t : Nat} (ht : t ∈ seesT ops o) (hlt : t < nt) : tget t tm = tget t tm' := by
  by_cases hw : ∃ j, B bef i j ∧ dstOf ops j = some t
  · obtain ⟨j, hj, hd⟩ := hw
    rw [(h o ho t ht hlt).1 j hj hd, (h' o ho t ht hlt).1 j hj hd]
  · have hn : ∀ j, B bef i j → dstOf ops j ≠ some t := fun j hj hd => hw ⟨j, hj, hd⟩
    rw [(h o ho t ht hlt).2 hn, (h' o ho t ht hlt).2 hn]
theorem sees_op {o : Oper} {t : Tmp} (h : Operand.tmp t ∈ o.op.operands) : t ∈ seesT ops o := by
  unfold seesT
  rw [List.mem_append]
  left
  rw [List.mem_filterMap]
  exact ⟨.tmp t, by simpa using h, rfl⟩
theorem sees_guard {o : Oper} {j : Nat} {want : Bool} {g : Tmp} (h : o.guard = some (j, want)) (hg : dstOf ops j = some g) : g ∈ seesT ops o := by
  unfold seesT
  rw [List.mem_append]
  right
  rw [h]
  unfold dstOf at hg
  simp [hg]
theorem ev_same {o : Oper} {tm tm' : Tm} (h : ∀ t ∈ seesT ops o, t < nt → tget t tm = tget t tm') (hg : ∀ x ∈ o.op.operands, goodO nt P.globals.size x = true) : ∀ x ∈ o.op.operands, evT tm x = evT tm' x := by
  intro x hx
  cases x with
  | tmp t => exact h t (sees_op hx) (by have := hg _ hx; simpa [goodO, blt_d] using this)
  | _ => rfl
theorem wantedT_same {o : Oper} {tm tm' : Tm} (h : ∀ t ∈ seesT ops o, t < nt → tget t tm = tget t tm') (hg : ∀ j want, o.guard = some (j, want) → ∃ g, dstOf ops j = some g ∧ g < nt) : wantedT ops o tm = wantedT ops o tm' := by
  unfold wantedT
  cases hgd : o.guard with
  | none => rfl
  | some p =>
    obtain ⟨j, want⟩ := p
    obtain ⟨g, h1, h2⟩ := hg j want hgd
    have h3 := h1
    unfold dstOf at h3
    simp only [h3]
    rw [h g (sees_guard hgd h1) h2]
/-- .. and an operation that looks does the same. -/
theorem opA_ev {o : Oper} (hl : looks o = true) {ev ev' : Operand → Value} (h : ∀ x ∈ o.op.operands, ev x = ev' x) (m : Mem) : opA P ev o m = opA P ev' o m := by
  unfold looks at hl
  split at hl
  · rename_i t x ho
    have := h x (by rw [ho]; simp [Op.operands])
    unfold opA
    rw [ho]
    simp only [this]
  · rename_i t x k ok ho
    have h1 := h x (by rw [ho]; simp [Op.operands])
    have h2 := h k (by rw [ho]; simp [Op.operands])
    unfold opA
    rw [ho]
    simp only [h1, h2]
  · rename_i t x lo hi mx ho
    have h1 := h x (by rw [ho]; simp [Op.operands])
    have h2 : lo.map ev = lo.map ev' := by
      cases lo with
      | none => rfl
      | some y => simp only [Option.map_some]; rw [h y (by rw [ho]; simp [Op.operands])]
    have h3 : hi.map ev = hi.map ev' := by
      cases hi with
      | none => rfl
      | some y => simp only [Option.map_some]; rw [h y (by rw [ho]; simp [Op.operands])]
    have h4 : mx.map ev = mx.map ev' := by
      cases mx with
      | none => rfl
      | some y => simp only [Option.map_some]; rw [h y (by rw [ho]; simp [Op.operands])]
    have hpl : plainOp P ev o = plainOp P ev' o := by
      unfold plainOp
      have e1 : o.op.operands.all (fun x => plain (ev x)) = o.op.operands.all (fun x => plain (ev' x)) := by
        rw [Bool.eq_iff_iff, Array.all_eq_true_iff_forall_mem, Array.all_eq_true_iff_forall_mem]
        exact ⟨fun g y hy => by rw [← h y hy]; exact g y hy, fun g y hy => by rw [h y hy]; exact g y hy⟩
      have e2 : execOp ev o = execOp ev' o := by
        unfold execOp
        rw [ho]
        simp only [h1, h2, h3, h4]
      rw [e1, e2]
    unfold opA
    rw [ho]
    cases mx with
    | some _ => rfl
    | none => simp only [h1, h2, h3, hpl]
  · cases hl
theorem watchV_ev {o : Oper} {ev ev' : Operand → Value} (h : ∀ x ∈ o.op.operands, ev x = ev' x) (v : Value) : watchV o ev v = watchV o ev' v := by
  unfold watchV
  split
  · rename_i t x ho; exact h x (by rw [ho]; simp [Op.operands])
  · rename_i t x k ok ho; exact h x (by rw [ho]; simp [Op.operands])
  · rename_i t x lo hi mx ho; exact h x (by rw [ho]; simp [Op.operands])
  · rfl

/-- A light operation that has been carried out by the abstract machine, and that a goroutine may have yet to carry out. -/
structure Pend (P : Program) (ops : Array Oper) (bef : Array Nat) (nt : Nat) (r : Ss) (tm0 : Tm) (i : Nat) (tmi : Tm) (v : Value) (m : Mem) (tm : Tm) : Prop where
  op : ∃ o, ops[i]? = some o ∧ GoodO P nt o ∧ (∀ j want, o.guard = some (j, want) → ∃ g, dstOf ops j = some g ∧ g < nt) ∧ (∀ d, o.dst = some d → d < nt → v = tget d r.tm) ∧
    ((wantedT ops o tmi = false ∧ v = undef) ∨ (wantedT ops o tmi = true ∧ LightOk P o (evT tmi) v m ∧ (memKind o = false → ∀ m, opA P (evT tmi) o m = some (v, m)) ∧ (crossing ops bef (heavies ops) i = true → nt + i < 512 ∧ ∃ m₁, Wf m₁ ∧ Mv m₁ m ∧ LightOk P o (evT tmi) v m₁ ∧ tget (nt + i) tm = stampV m₁ (watchV o (evT tmi) v))))
  seen : Seen ops bef nt r tm0 i tmi
theorem sameV_int {a b : Nat} (h : sameV (.int .i64 (.ofNat a)) (.int .i64 (.ofNat b)) = true) : a = b := by
  simp only [sameV] at h
  exact Nat.eq_of_beq_eq_true h
/-- Equal stamps tell of equal blocks. -/
theorem stamp_same {m m' : Mem} (hw : Wf m) (hm : Mv m m') {x : Value} (h : sameV (stampV m x) (stampV m' x) = true) {b : Nat} (hb : blkV x = some b) : m'.blk b = m.blk b ∧ stampV m x = stampV m' x := by
  unfold stampV at h ⊢
  rw [hb] at h ⊢
  simp only [] at h ⊢
  have e := sameV_int h
  refine ⟨?_, by rw [e]⟩
  rcases hm.blk b with h1 | h1
  · exact h1
  · have := hw.stamp b; omega
theorem crossing_light {i : Nat} (h : crossing ops bef (heavies ops) i = true) : fromA bef (heavies ops) i < tillA bef (heavies ops) i := by
  unfold crossing at h
  simp only [Bool.and_eq_true, blt_d, decide_eq_true_eq] at h
  exact h.1
theorem watchO_ev {o : Oper} {x : Operand} (h : watchO o = some x) {tm : Tm} {v : Value} (hv : ∀ d, o.dst = some d → tget d tm = v) : evT tm x = watchV o (evT tm) v := by
  unfold watchO at h
  unfold watchV
  split at h
  · rename_i t y ho; cases h; rw [ho]
  · rename_i t y k ok ho; cases h; rw [ho]
  · rename_i t y lo hi mx ho; cases h; rw [ho]
  · rename_i h1 h2 h3
    cases hd : o.dst with
    | none => rw [hd] at h; cases h
    | some d =>
      rw [hd] at h
      cases h
      split
      · rename_i ho; exact absurd ho (h1 _ _)
      · rename_i ho; exact absurd ho (h2 _ _ _ _)
      · rename_i ho; exact absurd ho (h3 _ _ _ _ _)
      · exact hv d hd
end
end Go.AM
/-
  REGIONS WHOSE ORDER IS DRAWN, 7: the abstract machine's run of one stage's light operations, of the checks behind a heavy one.
-/
set_option linter.unusedVariables false
set_option linter.unusedSimpArgs false
namespace Go.AM
open Go Go.Conc

section
variable {P : Program} {ops : Array Oper} {bef : Array Nat} {nt : Nat} {call : CallT} {r : Ss} {tm0 : Tm}
def lturns (ops : Array Oper) (bef : Array Nat) (nt : Nat) (L : List Nat) : List Turn := L.flatMap fun i => if crossing ops bef (heavies ops) i then [(0, i, 0), (1, i, nt + i)] else [(0, i, 0)]
def Lin (ops : Array Oper) (bef : Array Nat) : (Nat → Prop) → List Nat → Prop
  | _, [] => True
  | S, i :: L => (∀ j, B bef i j → S j) ∧ (∀ j, S j → ¬ B bef j i) ∧ ¬ S i ∧ (∃ o, ops[i]? = some o ∧ light o = true) ∧ Lin ops bef (fun x => S x ∨ x = i) L
theorem Lin.notin : ∀ {L : List Nat} {S : Nat → Prop}, Lin ops bef S L → ∀ x, S x → x ∉ L
  | [], S, _, x, _ => by simp
  | i :: L, S, h, x, hx => by
    obtain ⟨_, _, h3, _, h5⟩ := h
    intro hm
    rcases List.mem_cons.1 hm with rfl | hm
    · exact h3 hx
    · exact Lin.notin h5 x (.inl hx) hm
theorem light_no {o : Oper} (hl : light o = true) : (∀ x as ats, o.op ≠ .call { callee := .value x, args := as, argTypes := ats }) ∧ (∀ x n as ats, o.op ≠ .call { callee := .invoke x n, args := as, argTypes := ats }) ∧ (∀ c, o.op ≠ .defer c) := by
  refine ⟨fun x as ats ho => ?_, fun x n as ats ho => ?_, fun c ho => ?_⟩ <;> (unfold light at hl; rw [ho] at hl; cases hl)
theorem light_does {o : Oper} {tm : Tm} {m m' : Mem} {df df' : Df} {v : Value} (hl : light o = true) (h : OpDoes P call o tm m df v m' df') : opA P (evT tm) o m = some (v, m') ∧ df' = df := by
  obtain ⟨n1, n2, n3⟩ := light_no hl
  rcases h with h | ⟨f, args, hc, _⟩ | ⟨f, args, hd, _⟩
  · exact h
  · rcases hc with ⟨x, as, ats, _, _, ho, _⟩ | ⟨x, n, as, ats, _, ho, _⟩
    · exact absurd ho (n1 _ _ _)
    · exact absurd ho (n2 _ _ _ _)
  · obtain ⟨x, as, ats, _, _, ho, _⟩ := hd
    exact absurd ho (n3 _)
/-- i makes block β. -/
def MkOf (P : Program) (ops : Array Oper) (i : Nat) (tmi : Tm) (v : Value) (β : Nat) : Prop := ∃ o mk kb, ops[i]? = some o ∧ Makes P o (evT tmi) mk kb ∧ v = mk β ∧ wantedT ops o tmi = true
theorem own_unseen (R : RegOk ops bef nt) {i : Nat} {o : Oper} (ho : ops[i]? = some o) {t : Tmp} (ht : t ∈ seesT ops o) : dstOf ops i ≠ some t := by
  intro hd
  have hi := lt_of_get ho
  rcases R.sees i i o t ho ht hi hd with h | h <;> (have := R.ord.lt hi h; omega)
theorem Ex.step (R : RegOk ops bef nt) {S : Nat → Prop} {tm : Tm} (h : Ex ops nt r tm0 S tm) {i : Nat} (hi : ¬ S i) {v : Value} (hd : ∀ d, dstOf ops i = some d → d < 512) (hv : ∀ d, dstOf ops i = some d → d < nt → v = tget d r.tm) : Ex ops nt r tm0 (fun x => S x ∨ x = i) (putT (dstOf ops i) v tm) := by
  intro t ht
  have hnt := R.nt
  rw [tget_putT hd (by omega)]
  by_cases he : dstOf ops i = some t
  · rw [if_pos he]
    exact ⟨fun _ _ _ => hv t he ht, fun hn => absurd he (hn i (.inr rfl))⟩
  · rw [if_neg he]
    refine ⟨fun j hj hdj => ?_, fun hn => (h t ht).2 fun j hj => hn j (.inl hj)⟩
    rcases hj with hj | rfl
    · exact (h t ht).1 j hj hdj
    · exact absurd hdj he
theorem Ex.slot {S : Nat → Prop} {tm : Tm} (h : Ex ops nt r tm0 S tm) (hnt : nt ≤ 512) {slot : Nat} (h1 : nt ≤ slot) (h2 : slot < 512) (v : Value) : Ex ops nt r tm0 S (tput slot v tm) := by
  intro t ht
  rw [tget_tput h2 (by omega), if_neg (by omega)]
  exact h t ht
theorem Ex.iff {S S' : Nat → Prop} {tm : Tm} (h : Ex ops nt r tm0 S tm) (e : ∀ x, S x ↔ S' x) : Ex ops nt r tm0 S' tm := by
  have : S = S' := funext fun x => propext (e x)
  rw [← this]; exact h
theorem guard_of {nt' : Nat} {j : Nat} {want : Bool} {o : Oper} (h : ∀ j want, o.guard = some (j, want) → ∃ g, (ops[j]?).bind (·.dst) = some g ∧ g < nt ∧ g < 512) : ∀ j want, o.guard = some (j, want) → ∃ g, dstOf ops j = some g ∧ g < nt := fun j want hg => let ⟨g, h1, h2, _⟩ := h j want hg; ⟨g, h1, h2⟩

set_option maxHeartbeats 1000000 in
theorem lights_run (R : RegOk ops bef nt) {T : List Turn} : ∀ {L : List Nat} {S : Nat → Prop} {F : OpsF} {tm : Tm} {m : Mem} {df : Df}, Lin ops bef S L → (∀ x y, (0, x, y) ∈ T → ¬ S x ∧ x ∉ L) →
    turnsF P nt ops (lturns ops bef nt L ++ T) = some F → F call tm m df = some r → Wf m → Ex ops nt r tm0 S tm →
    ∃ F' tm' m', turnsF P nt ops T = some F' ∧ F' call tm' m' df = some r ∧ Grow m m' ∧ Ex ops nt r tm0 (fun x => S x ∨ x ∈ L) tm' ∧ (∀ j, j ∉ L → nt + j < 512 → tget (nt + j) tm' = tget (nt + j) tm) ∧
      ∃ (tmI : Nat → Tm) (vI : Nat → Value), (∀ i ∈ L, Pend P ops bef nt r tm0 i (tmI i) (vI i) m' tm') ∧ (∀ i ∈ L, ∀ β, MkOf P ops i (tmI i) (vI i) β → m.next ≤ β ∧ β < m'.next) ∧
        (∀ i ∈ L, ∀ j ∈ L, i ≠ j → ∀ β, MkOf P ops i (tmI i) (vI i) β → ¬ MkOf P ops j (tmI j) (vI j) β)
  | [], S, F, tm, m, df, _, _, hT, hf, hw, hex => ⟨F, tm, m, hT, hf, Grow.refl m, hex.iff fun x => by simp, fun _ _ _ => rfl, fun _ => tm, fun _ => undef, by simp, by simp, by simp⟩
  | i :: L, S, F, tm, m, df, hlin, hTn, hT, hf, hw, hex => by
    obtain ⟨l1, l2, l3, ⟨o, ho, hl⟩, l5⟩ := hlin
    have hnt := R.nt
    have hiL : i ∉ L := Lin.notin l5 i (.inr rfl)
    have hseen : Seen ops bef nt r tm0 i tm := seen_of R hex l1 l2
    have ed : dstOf ops i = o.dst := by unfold dstOf; rw [ho]; rfl
    -- the turns behind the operation itself
    have hmem : ∀ {x y : Nat}, ((0, x, y) : Turn) ∈ (if crossing ops bef (heavies ops) i then [((1, i, nt + i) : Turn)] else []) ++ (lturns ops bef nt L ++ T) → x ≠ i := by
      intro x y hx
      rcases List.mem_append.1 hx with h | h
      · split at h
        · simp at h
        · simp at h
      · rcases List.mem_append.1 h with h | h
        · unfold lturns at h
          obtain ⟨z, hz, h⟩ := List.mem_flatMap.1 h
          have : x = z := by
            split at h
            · simp at h; exact h.1
            · simp at h; exact h.1
          subst this
          rintro rfl; exact hiL hz
        · rintro rfl; exact (hTn _ _ h).2 (by simp)
    have hcons : turnsF P nt ops ((0, i, 0) :: ((if crossing ops bef (heavies ops) i then [((1, i, nt + i) : Turn)] else []) ++ (lturns ops bef nt L ++ T))) = some F := by
      rw [← hT]
      congr 1
      unfold lturns
      rw [List.flatMap_cons]
      split <;> simp
    obtain ⟨F1, hF1, ht1⟩ := turns_cons hcons
    obtain ⟨tm1, m1, df1, hone, hf1, _⟩ := turn_inv ht1 hf
    obtain ⟨vv, htm1, hd512⟩ := one_tm hone
    have hone' := hone
    obtain ⟨o', ho', hgood, hguard, hdo⟩ := hone
    rw [ho] at ho'; cases ho'
    -- what it yields stays
    have hkeep : ∀ d, dstOf ops i = some d → d < nt → tget d tm1 = tget d r.tm := fun d hd hlt => (turns_keep hnt hF1 hf1 d hlt fun x y hx he => R.uniq x i d (hmem hx) he hd).symm
    obtain ⟨v, hv, hdf, hg1, hok⟩ : ∃ v, tm1 = putT (dstOf ops i) v tm ∧ df1 = df ∧ Grow m m1 ∧ ((wantedT ops o tm = false ∧ v = undef) ∨ (wantedT ops o tm = true ∧ LightOk P o (evT tm) v m1 ∧ (memKind o = false → ∀ m, opA P (evT tm) o m = some (v, m)) ∧ opA P (evT tm) o m = some (v, m1))) := by
      rcases hdo with ⟨hwt, v, hd, rfl⟩ | ⟨hwt, rfl, rfl, rfl⟩
      · obtain ⟨h1, rfl⟩ := light_does hl hd
        obtain ⟨g1, g2, g3⟩ := light_ok hl hw h1
        exact ⟨v, by rw [ed], rfl, g1, .inr ⟨hwt, g2, g3, h1⟩⟩
      · exact ⟨undef, by rw [ed], rfl, Grow.refl _, .inl ⟨hwt, rfl⟩⟩
    subst hdf
    have hvr : ∀ d, dstOf ops i = some d → d < nt → v = tget d r.tm := fun d hd hlt => by
      rw [← hkeep d hd hlt, hv, tget_putT hd512 (Nat.lt_of_lt_of_le hlt hnt), if_pos hd]
    have hw1 : Wf m1 := hg1.fr.2.2 hw
    have hex1 : Ex ops nt r tm0 (fun x => S x ∨ x = i) tm1 := by rw [hv]; exact hex.step R l3 hd512 hvr
    have hsame : ∀ t ∈ seesT ops o, t < nt → tget t tm1 = tget t tm := fun t ht hlt => by
      rw [hv, tget_putT hd512 (Nat.lt_of_lt_of_le hlt hnt), if_neg (own_unseen R ho ht)]
    -- the stamp
    obtain ⟨F2, tm2, hF2, hf2, hex2, hslot2, hoth2⟩ : ∃ F2 tm2, turnsF P nt ops (lturns ops bef nt L ++ T) = some F2 ∧ F2 call tm2 m1 df1 = some r ∧ Ex ops nt r tm0 (fun x => S x ∨ x = i) tm2 ∧
        (crossing ops bef (heavies ops) i = true → wantedT ops o tm = true → tget (nt + i) tm2 = stampV m1 (watchV o (evT tm) v)) ∧ (∀ j, j ≠ i → nt + j < 512 → tget (nt + j) tm2 = tget (nt + j) tm) := by
      have hds : ∀ d, dstOf ops i = some d → d < nt := fun d hd => R.ord.dst i o d ho (by rw [← ed]; exact hd)
      have hoth1 : ∀ j, nt + j < 512 → tget (nt + j) tm1 = tget (nt + j) tm := fun j hj => by
        rw [hv, tget_putT hd512 hj, if_neg]
        intro he
        have h1 : nt + j < nt := hds _ he
        omega
      by_cases hc : crossing ops bef (heavies ops) i = true
      · rw [if_pos hc] at hF1
        obtain ⟨F2, hF2, ht2⟩ := turns_cons hF1
        obtain ⟨o2, x, ho2, hx, s1, s2, hf2⟩ := turn_inv ht2 hf1
        rw [ho] at ho2; cases ho2
        refine ⟨F2, _, hF2, hf2, hex1.slot hnt s1 s2 _, fun _ hwt => ?_, fun j hj hjl => ?_⟩
        · rw [tget_tput s2 s2, if_pos rfl, if_pos]
          · congr 1
            rw [watchO_ev hx (v := v) fun d hd => by rw [hv, tget_putT hd512 (hd512 d (by rw [ed]; exact hd)), if_pos (by rw [ed]; exact hd)]]
            exact watchV_ev (fun y hy => ev_same hsame hgood.1 y hy) v
          · rw [wantedT_same hsame (fun j want hg => let ⟨g, h1, h2, _⟩ := hguard j want hg; ⟨g, h1, h2⟩)]
            exact hwt
        · rw [tget_tput s2 hjl, if_neg (by omega)]
          exact hoth1 j hjl
      · rw [if_neg hc] at hF1
        exact ⟨F1, tm1, hF1, hf1, hex1, fun h => absurd h hc, fun j _ hjl => hoth1 j hjl⟩
    obtain ⟨F', tm', m', hF', hf', hg', hex', hoth', tmI, vI, hp, hm1, hm2⟩ := lights_run R l5 (fun x y hx => ⟨fun h => by
      rcases h with h | rfl
      · exact (hTn x y hx).1 h
      · exact (hTn x y hx).2 (by simp), fun h => (hTn x y hx).2 (by simp [h])⟩) hF2 hf2 hw1 hex2
    refine ⟨F', tm', m', hF', hf', hg1.trans hg', hex'.iff fun x => by simp only [List.mem_cons]; exact ⟨fun h => h.elim (fun h => h.elim .inl fun h => .inr (.inl h)) fun h => .inr (.inr h), fun h => h.elim (fun h => .inl (.inl h)) fun h => h.elim (fun h => .inl (.inr h)) .inr⟩,
      fun j hj hjl => by rw [hoth' j (fun h => hj (by simp [h])) hjl, hoth2 j (fun h => hj (by simp [h])) hjl], fun x => if x = i then tm else tmI x, fun x => if x = i then v else vI x, fun x hx => ?_, fun x hx β hβ => ?_, fun x hx y hy hxy β hβ hβ' => ?_⟩
    · rcases List.mem_cons.1 hx with rfl | hxL
      · simp only [if_true]
        refine ⟨⟨o, ho, hgood, fun j want hg => let ⟨g, h1, h2, _⟩ := hguard j want hg; ⟨g, h1, h2⟩, fun d hd hlt => hvr d (by rw [ed]; exact hd) hlt, ?_⟩, hseen⟩
        rcases hok with h | ⟨h1, h2, h3, h4⟩
        · exact .inl h
        · have hlt : crossing ops bef (heavies ops) x = true → nt + x < 512 := fun hc => by
            rw [if_pos hc] at hF1
            obtain ⟨_, _, ht2⟩ := turns_cons hF1
            obtain ⟨_, _, _, _, _, s2, _⟩ := turn_inv ht2 hf1
            exact s2
          refine .inr ⟨h1, h2.grow hw1 hg', h3, fun hc => ⟨hlt hc, m1, hw1, hg'.fr.w.mv, h2, ?_⟩⟩
          rw [hoth' x hiL (hlt hc)]
          exact hslot2 hc h1
      · have hne : x ≠ i := fun h => hiL (h ▸ hxL)
        simp only [hne, if_false]
        exact hp x hxL
    · rcases List.mem_cons.1 hx with rfl | hxL
      · simp only [if_true] at hβ
        obtain ⟨o2, mk, kb, ho2, hmk, hvm, hwt⟩ := hβ
        rw [ho] at ho2; cases ho2
        rcases hok with ⟨h1, _⟩ | ⟨_, _, _, h4⟩
        · rw [h1] at hwt; cases hwt
        · rw [hmk.op m] at h4
          simp only [Option.some.injEq, Prod.mk.injEq] at h4
          have e1 : blkV v = some m.next := by rw [← h4.1]; exact mkForm_blk hmk.form _
          have e2 : blkV v = some β := by rw [hvm]; exact mkForm_blk hmk.form _
          rw [e1] at e2
          cases e2
          refine ⟨Nat.le_refl _, ?_⟩
          have := hg'.next
          have h5 : m1.next = m.next + 1 := by rw [← h4.2]; rfl
          omega
      · have hne : x ≠ i := fun h => hiL (h ▸ hxL)
        simp only [hne, if_false] at hβ
        have := hm1 x hxL β hβ
        have := hg1.next
        omega
    · -- blocks of two operations are two
      have hbig : ∀ z ∈ L, ∀ β, MkOf P ops z (tmI z) (vI z) β → m1.next ≤ β := fun z hz β hβ => (hm1 z hz β hβ).1
      have hsmall : ∀ β, MkOf P ops i tm v β → β < m1.next := fun β hβ => by
        obtain ⟨o2, mk, kb, ho2, hmk, hvm, hwt⟩ := hβ
        rw [ho] at ho2; cases ho2
        rcases hok with ⟨h1, _⟩ | ⟨_, _, _, h4⟩
        · rw [h1] at hwt; cases hwt
        · rw [hmk.op m] at h4
          simp only [Option.some.injEq, Prod.mk.injEq] at h4
          have e1 : blkV v = some m.next := by rw [← h4.1]; exact mkForm_blk hmk.form _
          have e2 : blkV v = some β := by rw [hvm]; exact mkForm_blk hmk.form _
          rw [e1] at e2
          cases e2
          have h5 : m1.next = m.next + 1 := by rw [← h4.2]; rfl
          omega
      rcases List.mem_cons.1 hx with hxe | hxL <;> rcases List.mem_cons.1 hy with hye | hyL
      · exact hxy (hxe.trans hye.symm)
      · have hne : y ≠ i := fun h => hiL (h ▸ hyL)
        simp only [hxe, if_true] at hβ
        simp only [hne, if_false] at hβ'
        have := hbig y hyL β hβ'
        have := hsmall β hβ
        omega
      · have hne : x ≠ i := fun h => hiL (h ▸ hxL)
        simp only [hne, if_false] at hβ
        simp only [hye, if_true] at hβ'
        have := hbig x hxL β hβ
        have := hsmall β hβ'
        omega
      · have h1 : x ≠ i := fun h => hiL (h ▸ hxL)
        have h2 : y ≠ i := fun h => hiL (h ▸ hyL)
        simp only [h1, if_false] at hβ
        simp only [h2, if_false] at hβ'
        exact hm2 x hxL y hyL hxy β hβ hβ'
end
end Go.AM
/-
  REGIONS WHOSE ORDER IS DRAWN, 8: whichever order is drawn, the goroutine comes to what the abstract machine comes to.
-/
set_option linter.unusedVariables false
set_option linter.unusedSimpArgs false
namespace Go.AM
open Go Go.Conc

section
variable {P : Program} {X : Ext} {main : Bool} {J : JT} {F : Mem → Mem → Prop} {ops : Array Oper} {bef : Array Nat} {nt : Nat} {call : CallT} {r : Ss} {tm0 : Tm}
theorem checks_run {T : List Turn} : ∀ {C : List Nat} {F : OpsF} {tm : Tm} {m : Mem} {df : Df}, turnsF P nt ops ((C.map fun i => ((2, i, nt + i) : Turn)) ++ T) = some F → F call tm m df = some r →
    ∃ F', turnsF P nt ops T = some F' ∧ F' call tm m df = some r ∧ ∀ i ∈ C, ∃ o x, ops[i]? = some o ∧ watchO o = some x ∧ (wantedT ops o tm = true → sameV (tget (nt + i) tm) (stampV m (evT tm x)) = true ∧
      (looks o = true → (opA P (evT tm) o m).isSome = true) ∧ (looks o = false → ∀ b, blkV (evT tm x) = some b → m.floor ≤ b))
  | [], F, tm, m, df, h, hf => ⟨F, h, hf, by simp⟩
  | i :: C, F, tm, m, df, h, hf => by
    obtain ⟨F1, h1, ht⟩ := turns_cons h
    obtain ⟨o, x, ho, hx, hf1, hc⟩ := turn_inv ht hf
    obtain ⟨F', g1, g2, g3⟩ := checks_run h1 hf1
    refine ⟨F', g1, g2, fun j hj => ?_⟩
    rcases List.mem_cons.1 hj with rfl | hj
    · exact ⟨o, x, ho, hx, hc⟩
    · exact g3 j hj
theorem Pend.grow {i : Nat} {tmi : Tm} {v : Value} {m m' : Mem} {tm tm' : Tm} (h : Pend P ops bef nt r tm0 i tmi v m tm) (hw : Wf m) (g : Grow m m') (ht : nt + i < 512 → tget (nt + i) tm' = tget (nt + i) tm) : Pend P ops bef nt r tm0 i tmi v m' tm' := by
  obtain ⟨⟨o, h1, h2, h3, h4, h5⟩, h6⟩ := h
  refine ⟨⟨o, h1, h2, h3, h4, h5.imp id ?_⟩, h6⟩
  rintro ⟨g1, g2, g3, g4⟩
  refine ⟨g1, g2.grow hw g, g3, fun hc => ?_⟩
  obtain ⟨k1, m₁, k2, k3, k4, k5⟩ := g4 hc
  exact ⟨k1, m₁, k2, k3.trans g.fr.w.mv, k4, by rw [ht k1]; exact k5⟩
/-- Behind a heavy operation, and the checks. -/
theorem Pend.across (R : RegOk ops bef nt) {i : Nat} {tmi : Tm} {v : Value} {m m' : Mem} {tm tm' : Tm} {S : Nat → Prop} (h : Pend P ops bef nt r tm0 i tmi v m tm) (hm : Mv m m') (ht : nt + i < 512 → tget (nt + i) tm' = tget (nt + i) tm)
    (hex : Ex ops nt r tm0 S tm') (hS : S i) (hdown : ∀ j, B bef i j → S j)
    (hc : crossing ops bef (heavies ops) i = true → ∃ o x, ops[i]? = some o ∧ watchO o = some x ∧ (wantedT ops o tm' = true → sameV (tget (nt + i) tm') (stampV m' (evT tm' x)) = true ∧
      (looks o = true → (opA P (evT tm') o m').isSome = true) ∧ (looks o = false → ∀ b, blkV (evT tm' x) = some b → m'.floor ≤ b)))
    (hlt : fromA bef (heavies ops) i < tillA bef (heavies ops) i) : Pend P ops bef nt r tm0 i tmi v m' tm' := by
  obtain ⟨⟨o, h1, h2, h3, h4, h5⟩, h6⟩ := h
  refine ⟨⟨o, h1, h2, h3, h4, h5.imp id ?_⟩, h6⟩
  rintro ⟨g1, g2, g3, g4⟩
  cases hk : memKind o with
  | false =>
    have hnc : crossing ops bef (heavies ops) i = false := by
      show (Nat.blt _ _ && (ops[i]?).any memKind) = false
      rw [h1]
      simp [hk]
    exact ⟨g1, .pure (g3 hk), fun _ => g3 hk, fun hc => by rw [hnc] at hc; cases hc⟩
  | true =>
    have hcr : crossing ops bef (heavies ops) i = true := by
      show (Nat.blt _ _ && (ops[i]?).any memKind) = true
      rw [h1]
      simp [hk, blt_d, hlt]
    obtain ⟨o', x, ho', hx, hchk⟩ := hc hcr
    rw [h1] at ho'; cases ho'
    obtain ⟨k1, m₁, k2, k3, k4, k5⟩ := g4 hcr
    have hsame : ∀ t ∈ seesT ops o, t < nt → tget t tmi = tget t tm' := fun t ht hlt => by
      by_cases hw : ∃ j, dstOf ops j = some t
      · obtain ⟨j, hj⟩ := hw
        have hb := R.steady i hcr o h1 t ht j hj
        rw [(h6 o h1 t ht hlt).1 j hb hj, (hex t hlt).1 j (hdown j hb) hj]
      · have hn : ∀ j, dstOf ops j ≠ some t := fun j hj => hw ⟨j, hj⟩
        rw [(h6 o h1 t ht hlt).2 fun j _ => hn j, (hex t hlt).2 fun j _ => hn j]
    have hev : ∀ y ∈ o.op.operands, evT tm' y = evT tmi y := fun y hy => (ev_same hsame h2.1 y hy).symm
    obtain ⟨c1, c2, c3⟩ := hchk (by rw [← wantedT_same hsame h3]; exact g1)
    have ed : dstOf ops i = o.dst := by unfold dstOf; rw [h1]; rfl
    have hdv : ∀ d, o.dst = some d → tget d tm' = v := fun d hd => by
      have hlt := R.ord.dst i o d h1 hd
      rw [h4 d hd hlt]
      exact (hex d hlt).1 i hS (by rw [ed]; exact hd)
    have hwv : evT tm' x = watchV o (evT tmi) v := (watchO_ev hx hdv).trans (watchV_ev hev v)
    rw [hwv, ht k1, k5] at c1
    have hm1 := k3.trans hm
    have hblk : ∀ b, blkV (watchV o (evT tmi) v) = some b → m'.blk b = m₁.blk b := fun b hb => (stamp_same k2 hm1 c1 hb).1
    refine ⟨g1, k4.check hm1.next hblk (fun hl => ?_) (fun hl b hb => ?_), fun h => (by cases h), fun _ => ⟨k1, m₁, k2, hm1, k4, by rw [ht k1]; exact k5⟩⟩
    · rw [← opA_ev hl hev]; exact c2 hl
    · refine c3 hl b ?_
      rw [hwv, watchV_not hl]; exact hb

/-- What lies in the goroutine's variables once D has been carried out. -/
structure RT (nt : Nat) (ops : Array Oper) (r : Ss) (tm0 : Tm) (ρ : Ren) (D : Nat → Prop) (a : Act) : Prop where
  size : a.tmps.size = nt
  done : ∀ t, t < nt → ∀ i, D i → dstOf ops i = some t → VRel ρ (tget t r.tm) (a.tmps.getD t undef)
  old : ∀ t, t < nt → (∀ i, D i → dstOf ops i ≠ some t) → VRel ρ (tget t tm0) (a.tmps.getD t undef)
theorem RT.ren {ρ ρ' : Ren} {D : Nat → Prop} {a : Act} (h : RT nt ops r tm0 ρ D a) (hle : ρ.le ρ') : RT nt ops r tm0 ρ' D a :=
  ⟨h.size, fun t ht i hi hd => (h.done t ht i hi hd).ren hle, fun t ht hn => (h.old t ht hn).ren hle⟩
theorem RT.step {ρ : Ren} {D : Nat → Prop} {a : Act} (R : RegOk ops bef nt) (h : RT nt ops r tm0 ρ D a) {i : Nat} {o : Oper} (ho : ops[i]? = some o) {v v' : Value} (hv : VRel ρ v v') (hvr : ∀ d, o.dst = some d → d < nt → v = tget d r.tm) (ds : List Deferred) :
    RT nt ops r tm0 ρ (fun x => D x ∨ x = i) (Act.put ⟨a.tmps, ds⟩ o.dst v') := by
  have ed : dstOf ops i = o.dst := by unfold dstOf; rw [ho]; rfl
  obtain ⟨p1, p2, p3⟩ := put_tmps ⟨a.tmps, ds⟩ o.dst v'
  refine ⟨p2.trans h.size, fun t ht j hj hd => ?_, fun t ht hn => ?_⟩
  · rw [p3 t (by show t < a.tmps.size; rw [h.size]; exact ht)]
    by_cases he : o.dst = some t
    · rw [if_pos he, ← hvr t he ht]; exact hv
    · rw [if_neg he]
      rcases hj with hj | rfl
      · exact h.done t ht j hj hd
      · rw [ed] at hd; exact absurd hd he
  · have he : o.dst ≠ some t := by rw [← ed]; exact hn i (.inr rfl)
    rw [p3 t (by show t < a.tmps.size; rw [h.size]; exact ht), if_neg he]
    exact h.old t ht fun j hj => hn j (.inl hj)
theorem seen_rel (R : RegOk ops bef nt) {ρ : Ren} {D : Nat → Prop} {a : Act} {i : Nat} {tmx : Tm} (hs : Seen ops bef nt r tm0 i tmx) (h : RT nt ops r tm0 ρ D a) (h1 : ∀ j, B bef i j → D j) (h2 : ∀ j, D j → ¬ B bef j i) {o : Oper} (ho : ops[i]? = some o) :
    ∀ t ∈ seesT ops o, t < nt → VRel ρ (tget t tmx) (a.tmps.getD t undef) := by
  intro t ht hlt
  by_cases hw : ∃ j, B bef i j ∧ dstOf ops j = some t
  · obtain ⟨j, hb, hd⟩ := hw
    rw [(hs o ho t ht hlt).1 j hb hd]
    exact h.done t hlt j (h1 j hb) hd
  · rw [(hs o ho t ht hlt).2 fun j hb hd => hw ⟨j, hb, hd⟩]
    refine h.old t hlt fun j hj hd => ?_
    rcases R.sees i j o t ho ht (dst_lt hd) hd with hb | hb
    · exact hw ⟨j, hb, hd⟩
    · exact h2 j hj hb
theorem op_rel {E : Perm} {w₀ : World} {σ : GSt} {ρ : Ren} {m : Mem} {w : World} (H : Hold P E w₀ σ ρ m w) {a : Act} {tmx : Tm} {o : Oper} (h : ∀ t ∈ seesT ops o, t < nt → VRel ρ (tget t tmx) (a.tmps.getD t undef)) (hg : ∀ x ∈ o.op.operands, goodO nt P.globals.size x = true) :
    ∀ x ∈ o.op.operands, VRel ρ (evT tmx x) (a.eval x) := by
  intro x hx
  have hgx := hg x hx
  cases x with
  | tmp t =>
    simp only [goodO, blt_d, decide_eq_true_eq] at hgx
    exact h t (sees_op hx) hgx
  | const v => exact plain_vrel hgx
  | global g =>
    simp only [goodO, blt_d, decide_eq_true_eq] at hgx
    obtain ⟨p, h1, h2, h3⟩ := H.glob g hgx
    exact vrel_ptr.2 ⟨p, h1, rfl, by rw [h2, h3]; rfl⟩
  | func f => exact vrel_func.2 ⟨_, _, rfl, trivial, trivial⟩
theorem wanted_rel' {ρ : Ren} {a : Act} {tmx : Tm} {o : Oper} (h : ∀ t ∈ seesT ops o, t < nt → VRel ρ (tget t tmx) (a.tmps.getD t undef)) (hg : ∀ j want, o.guard = some (j, want) → ∃ g, dstOf ops j = some g ∧ g < nt) (hs : a.tmps.size = nt) :
    Region.wanted o (yielded ops a.tmps) = wantedT ops o tmx :=
  wanted_rel (fun j want hj => let ⟨g, h1, h2⟩ := hg j want hj; ⟨g, h1, h2, h g (sees_guard hj h1) h2⟩) hs
end
end Go.AM
/-
  REGIONS WHOSE ORDER IS DRAWN, 9: 'drawn_real'.
-/
set_option linter.unusedVariables false
set_option linter.unusedSimpArgs false
namespace Go.AM
open Go Go.Conc

section
variable {P : Program} {X : Ext} {main : Bool} {J : JT} {F : Mem → Mem → Prop} {ops : Array Oper} {bef : Array Nat} {nt : Nat} {call : CallT} {r : Ss} {tm0 : Tm}
def SS (ops : Array Oper) (bef : Array Nat) (pre : List Nat) (i : Nat) : Prop := ((∃ o, ops[i]? = some o ∧ light o = true) ∧ fromA bef (heavies ops) i < pre.length) ∨ i ∈ pre
theorem mem_lights {s i : Nat} : i ∈ lightsAt ops bef (heavies ops) s ↔ (∃ o, ops[i]? = some o ∧ light o = true) ∧ fromA bef (heavies ops) i = s := by
  unfold lightsAt
  rw [List.mem_filter, List.mem_range]
  constructor
  · rintro ⟨h1, h2⟩
    simp only [Bool.and_eq_true, beq_iff_eq, Array.getElem?_eq_getElem h1] at h2
    exact ⟨⟨_, Array.getElem?_eq_getElem h1, by simpa using h2.1⟩, h2.2⟩
  · rintro ⟨⟨o, ho, hl⟩, h2⟩
    exact ⟨lt_of_get ho, by simp [ho, hl, h2]⟩
theorem nth_heavy {pre rest : List Nat} {h : Nat} (hh : heavies ops = pre ++ h :: rest) : (heavies ops)[pre.length]? = some h := by rw [hh]; simp
/-- One stage's light operations can be carried out, in the text's order. -/
theorem lin_lights (R : RegOk ops bef nt) {pre rest : List Nat} (hh : heavies ops = pre ++ rest) : Lin ops bef (SS ops bef pre) (lightsAt ops bef (heavies ops) pre.length) := by
  have hsort : (lightsAt ops bef (heavies ops) pre.length).Pairwise (· < ·) := List.Pairwise.filter _ List.pairwise_lt_range
  have hall : ∀ i ∈ lightsAt ops bef (heavies ops) pre.length, (∃ o, ops[i]? = some o ∧ light o = true) ∧ fromA bef (heavies ops) i = pre.length := fun i hi => mem_lights.1 hi
  have hcov : ∀ j, (∃ o, ops[j]? = some o ∧ light o = true) → fromA bef (heavies ops) j = pre.length → j ∈ lightsAt ops bef (heavies ops) pre.length := fun j h1 h2 => mem_lights.2 ⟨h1, h2⟩
  have hpre : ∀ j, j ∈ pre → ∃ k, k < pre.length ∧ (heavies ops)[k]? = some j := fun j hj => by
    obtain ⟨k, hk, rfl⟩ := List.mem_iff_getElem.1 hj
    exact ⟨k, hk, by rw [hh, List.getElem?_append_left hk]; exact List.getElem?_eq_getElem hk⟩
  -- what lies ahead of an operation of the stage
  have hahead : ∀ i ∈ lightsAt ops bef (heavies ops) pre.length, ∀ j, B bef i j → SS ops bef pre j ∨ (j ∈ lightsAt ops bef (heavies ops) pre.length ∧ j < i) := by
    intro i hi j hb
    obtain ⟨⟨o, ho, hl⟩, hf⟩ := hall i hi
    have hil := lt_of_get ho
    have hji := R.ord.lt hil hb
    have hjo : ops[j]? = some ops[j] := Array.getElem?_eq_getElem (by omega)
    cases hlj : light ops[j] with
    | true =>
      have hle := R.from_mono hil hb
      rcases Nat.lt_or_ge (fromA bef (heavies ops) j) pre.length with h1 | h1
      · exact .inl (.inl ⟨⟨_, hjo, hlj⟩, h1⟩)
      · exact .inr ⟨hcov j ⟨_, hjo, hlj⟩ (by omega), hji⟩
    | false =>
      have hm : j ∈ heavies ops := mem_heavies.2 ⟨_, hjo, hlj⟩
      obtain ⟨k, hk⟩ := List.mem_iff_getElem?.1 hm
      have hkl := (R.from_iff hil hk).1 hb
      rw [hf] at hkl
      rw [hh, List.getElem?_append_left hkl] at hk
      exact .inl (.inr (List.mem_of_getElem? hk))
  have hnot : ∀ i ∈ lightsAt ops bef (heavies ops) pre.length, ¬ SS ops bef pre i := by
    intro i hi
    obtain ⟨⟨o, ho, hl⟩, hf⟩ := hall i hi
    rintro (⟨_, h⟩ | h)
    · omega
    · obtain ⟨o', ho', hl'⟩ := mem_heavies.1 (show i ∈ heavies ops by rw [hh]; exact List.mem_append_left _ h)
      rw [ho] at ho'; cases ho'
      rw [hl] at hl'; cases hl'
  have hback : ∀ i ∈ lightsAt ops bef (heavies ops) pre.length, ∀ j, SS ops bef pre j → ¬ B bef j i := by
    intro i hi j hj hb
    obtain ⟨⟨o, ho, hl⟩, hf⟩ := hall i hi
    rcases hj with ⟨⟨o', ho', _⟩, hlt⟩ | hj
    · have := R.from_mono (lt_of_get ho') hb
      omega
    · obtain ⟨k, hk, hkj⟩ := hpre j hj
      have h1 := (R.till_iff hkj).1 hb
      have := R.from_till (lt_of_get ho)
      omega
  generalize hL : lightsAt ops bef (heavies ops) pre.length = L at *
  -- along the list
  have key : ∀ (M L' : List Nat), L = M ++ L' → Lin ops bef (fun x => SS ops bef pre x ∨ x ∈ M) L' := by
    intro M L'
    induction L' generalizing M with
    | nil => intro _; trivial
    | cons i L' ih =>
      intro e
      have hi : i ∈ L := by rw [e]; simp
      have hlt : ∀ x ∈ M, x < i := fun x hx => by
        rw [e] at hsort
        exact (List.pairwise_append.1 hsort).2.2 x hx i (by simp)
      have hgt : ∀ x ∈ L', i < x := fun x hx => by
        rw [e] at hsort
        exact (List.pairwise_cons.1 (List.pairwise_append.1 hsort).2.1).1 x hx
      refine ⟨fun j hb => ?_, fun j hj hb => ?_, ?_, (hall i hi).1, ?_⟩
      · rcases hahead i hi j hb with h | ⟨h, hji⟩
        · exact .inl h
        · rw [e] at h
          rcases List.mem_append.1 h with h | h
          · exact .inr h
          · rcases List.mem_cons.1 h with rfl | h
            · omega
            · have := hgt j h; omega
      · rcases hj with hj | hj
        · exact hback i hi j hj hb
        · have h1 := hlt j hj
          obtain ⟨⟨o', ho', _⟩, _⟩ := hall j (by rw [e]; simp [hj])
          have := R.ord.lt (lt_of_get ho') hb
          omega
      · rintro (h | h)
        · exact hnot i hi h
        · have := hlt i h; omega
      · have := ih (M ++ [i]) (by rw [e]; simp)
        have e2 : (fun x => SS ops bef pre x ∨ x ∈ M ++ [i]) = fun x => (SS ops bef pre x ∨ x ∈ M) ∨ x = i := by
          funext x
          simp only [List.mem_append, List.mem_singleton, or_assoc]
        rw [e2] at this
        exact this
  have := key [] L rfl
  simpa using this
/-- The turns to come lay nothing that lies already. -/
theorem stages_mem : ∀ {rest pre : List Nat}, heavies ops = pre ++ rest → ∀ x y, ((0, x, y) : Turn) ∈ stagesT ops bef (heavies ops) nt pre.length rest → (x ∈ rest ∨ ((∃ o, ops[x]? = some o ∧ light o = true) ∧ pre.length ≤ fromA bef (heavies ops) x)) := by
  have hst : ∀ s x y, ((0, x, y) : Turn) ∈ stageT ops bef (heavies ops) nt s → (∃ o, ops[x]? = some o ∧ light o = true) ∧ fromA bef (heavies ops) x = s := by
    intro s x y h
    unfold stageT at h
    obtain ⟨z, hz, h⟩ := List.mem_flatMap.1 h
    have e : x = z := by
      split at h
      · simp at h; exact h.1
      · simp at h; exact h.1
    subst e
    exact mem_lights.1 hz
  intro rest
  induction rest with
  | nil =>
    intro pre hh x y h
    unfold stagesT at h
    obtain ⟨h1, h2⟩ := hst _ _ _ h
    exact .inr ⟨h1, by omega⟩
  | cons a rest ih =>
    intro pre hh x y h
    unfold stagesT at h
    rcases List.mem_append.1 h with h | h
    · obtain ⟨h1, h2⟩ := hst _ _ _ h
      exact .inr ⟨h1, by omega⟩
    · rcases List.mem_cons.1 h with h | h
      · cases h; exact .inl (by simp)
      · rcases List.mem_append.1 h with h | h
        · unfold checksT at h
          obtain ⟨z, _, e⟩ := List.mem_map.1 h
          cases e
        · have := ih (pre := pre ++ [a]) (by rw [hh]; simp) x y (by simpa using h)
          rcases this with h | ⟨h1, h2⟩
          · exact .inl (by simp [h])
          · exact .inr ⟨h1, by simp at h2; omega⟩

structure PendAll (P : Program) (ops : Array Oper) (bef : Array Nat) (nt : Nat) (r : Ss) (tm0 : Tm) (s N₀ : Nat) (tmI : Nat → Tm) (vI : Nat → Value) (m : Mem) (tm : Tm) : Prop where
  pend : ∀ i, (∃ o, ops[i]? = some o ∧ light o = true) → fromA bef (heavies ops) i < s → s ≤ tillA bef (heavies ops) i → Pend P ops bef nt r tm0 i (tmI i) (vI i) m tm
  made : ∀ i, (∃ o, ops[i]? = some o ∧ light o = true) → fromA bef (heavies ops) i < s → ∀ β, MkOf P ops i (tmI i) (vI i) β → N₀ ≤ β ∧ β < m.next
  apart : ∀ i j, (∃ o, ops[i]? = some o ∧ light o = true) → (∃ o, ops[j]? = some o ∧ light o = true) → fromA bef (heavies ops) i < s → fromA bef (heavies ops) j < s → i ≠ j → ∀ β, MkOf P ops i (tmI i) (vI i) β → ¬ MkOf P ops j (tmI j) (vI j) β
/-- What is to be shown of the goroutine, at the beginning of a stage. -/
def StageGoal (P : Program) (J : JT) (ops : Array Oper) (bef : Array Nat) (nt : Nat) (r : Ss) (tm0 : Tm) (N₀ : Nat) (pre rest : List Nat) (tmI : Nat → Tm) (vI : Nat → Value) (lim : Nat) (m : Mem) (df : Df) (c : Nat) : Prop :=
  ∀ {E : Perm} {w₀ : World} {σ : GSt} {ρ : Ren} {w : World} {b : Frame} {a : Act} {k : List Item} {cs : List Frame} {l : List Nat} {D : Nat → Prop} {n : Nat}, b.kind ≠ .early → Left2Do ops bef D l →
    (∀ h ∈ pre, D h) → (∀ h ∈ rest, ¬ D h) → Hold P E w₀ σ ρ m w → RT nt ops r tm0 ρ D a → Rel2 (DRel ρ) df a.defers →
    (∀ i, (∃ o, ops[i]? = some o ∧ light o = true) → fromA bef (heavies ops) i < lim → ¬ D i → ∀ β, MkOf P ops i (tmI i) (vI i) β → ρ β = none) →
    (∀ σ' ρ' w' a', ρ.le ρ' → (∀ b, b < N₀ → ρ' b = ρ b) → Hold P E w₀ σ' ρ' r.mem w' → ARel nt ρ' r.tm r.df a' → J σ' n ((permOf ρ' r.mem).or E) (G (b.at a' (.inRegion ops [] :: k)) cs) w') →
    J σ (n + c + l.length) ((permOf ρ m).or E) (G (b.at a (.inRegion ops l :: k)) cs) w

/-- Within a stage: light operations, till a heavy one comes up. -/
theorem within_stage (hJ : ∀ σ, Judge P main (J σ)) (hX : Fine P X) (R : RegOk ops bef nt) {pre rest : List Nat} (hh : heavies ops = pre ++ rest) {N₀ : Nat} {tmI : Nat → Tm} {vI : Nat → Value} {m : Mem} {tm : Tm} {df : Df} {c : Nat} (hN : N₀ ≤ m.next)
    (hp : PendAll P ops bef nt r tm0 (pre.length + 1) N₀ tmI vI m tm ∨ True) (hpend : ∀ i, (∃ o, ops[i]? = some o ∧ light o = true) → fromA bef (heavies ops) i ≤ pre.length → pre.length ≤ tillA bef (heavies ops) i → Pend P ops bef nt r tm0 i (tmI i) (vI i) m tm)
    (hmade : ∀ i, (∃ o, ops[i]? = some o ∧ light o = true) → fromA bef (heavies ops) i ≤ pre.length → ∀ β, MkOf P ops i (tmI i) (vI i) β → N₀ ≤ β ∧ β < m.next)
    (hapart : ∀ i j, (∃ o, ops[i]? = some o ∧ light o = true) → (∃ o, ops[j]? = some o ∧ light o = true) → fromA bef (heavies ops) i ≤ pre.length → fromA bef (heavies ops) j ≤ pre.length → i ≠ j → ∀ β, MkOf P ops i (tmI i) (vI i) β → ¬ MkOf P ops j (tmI j) (vI j) β)
    (hend : rest = [] → ∀ {E : Perm} {w₀ : World} {σ : GSt} {ρ : Ren} {w : World} {b : Frame} {a : Act} {k : List Item} {cs : List Frame} {D : Nat → Prop} {n : Nat}, b.kind ≠ .early → Left2Do ops bef D [] → Hold P E w₀ σ ρ m w → RT nt ops r tm0 ρ D a → Rel2 (DRel ρ) df a.defers →
      (∀ σ' ρ' w' a', ρ.le ρ' → (∀ b, b < N₀ → ρ' b = ρ b) → Hold P E w₀ σ' ρ' r.mem w' → ARel nt ρ' r.tm r.df a' → J σ' n ((permOf ρ' r.mem).or E) (G (b.at a' (.inRegion ops [] :: k)) cs) w') →
      J σ n ((permOf ρ m).or E) (G (b.at a (.inRegion ops [] :: k)) cs) w)
    (hheavy : ∀ h rest', rest = h :: rest' → ∀ {E : Perm} {w₀ : World} {σ : GSt} {ρ : Ren} {w : World} {b : Frame} {a : Act} {k : List Item} {cs : List Frame} {l : List Nat} {D : Nat → Prop} {n : Nat}, b.kind ≠ .early → Left2Do ops bef D (h :: l) →
      (∀ h ∈ pre, D h) → (∀ h ∈ rest, ¬ D h) → Hold P E w₀ σ ρ m w → RT nt ops r tm0 ρ D a → Rel2 (DRel ρ) df a.defers →
      (∀ i, (∃ o, ops[i]? = some o ∧ light o = true) → fromA bef (heavies ops) i ≤ pre.length → ¬ D i → ∀ β, MkOf P ops i (tmI i) (vI i) β → ρ β = none) →
      (∀ σ' ρ' w' a', ρ.le ρ' → (∀ b, b < N₀ → ρ' b = ρ b) → Hold P E w₀ σ' ρ' r.mem w' → ARel nt ρ' r.tm r.df a' → J σ' n ((permOf ρ' r.mem).or E) (G (b.at a' (.inRegion ops [] :: k)) cs) w') →
      J σ (n + c + (l.length + 1)) ((permOf ρ m).or E) (G (b.at a (.inRegion ops (h :: l) :: k)) cs) w) :
    StageGoal P J ops bef nt r tm0 N₀ pre rest tmI vI (pre.length + 1) m df c := by
  intro E w₀ σ ρ w b a k cs l
  induction l generalizing σ ρ w a with
  | nil =>
    intro D n hk hl hpre hrest H hrt hds hmk hfin
    have hr0 : rest = [] := by
      cases hr : rest with
      | nil => rfl
      | cons h rest' =>
        exfalso
        have hm : h ∈ heavies ops := by rw [hh, hr]; simp
        obtain ⟨o, ho, _⟩ := mem_heavies.1 hm
        rcases hl.all h (lt_of_get ho) with h1 | h1
        · exact hrest h (by rw [hr]; simp) h1
        · cases h1
    exact (hJ σ).le (show n ≤ n + c + 0 by omega) (hend hr0 hk hl H hrt hds hfin)
  | cons i l ih =>
    intro D n hk hl hpre hrest H hrt hds hmk hfin
    obtain ⟨d1, d2, d3, d4⟩ := hl.head
    have hoi : ops[i]? = some ops[i] := Array.getElem?_eq_getElem d3
    have hback : ∀ j, D j → ¬ B bef j i := fun j hj hb => d2 (hl.down j hj i hb)
    cases hli : light ops[i] with
    | false =>
      -- the next heavy one
      have hm : i ∈ heavies ops := mem_heavies.2 ⟨_, hoi, hli⟩
      rw [hh] at hm
      rcases List.mem_append.1 hm with hm | hm
      · exact absurd (hpre i hm) d2
      · cases hr : rest with
        | nil => rw [hr] at hm; cases hm
        | cons h rest' =>
          have hih : i = h := by
            rw [hr] at hm
            rcases List.mem_cons.1 hm with e | hm
            · exact e
            · exfalso
              obtain ⟨q, hq⟩ := List.mem_iff_getElem?.1 hm
              have h1 : (heavies ops)[pre.length]? = some h := by rw [hh, hr]; simp
              have h2 : (heavies ops)[pre.length + 1 + q]? = some i := by
                rw [hh, hr, List.getElem?_append_right (by omega), show pre.length + 1 + q - pre.length = q + 1 by omega]
                simpa using hq
              have hb := R.chain pre.length (pre.length + 1 + q) h i (by omega) h1 h2
              exact hrest h (by rw [hr]; simp) (d1 h hb)
          subst hih
          exact hheavy i rest' hr hk hl hpre (by rw [hr] at hrest ⊢; exact hrest) H hrt hds (fun j h1 h2 h3 => hmk j h1 (by omega) h3) hfin
    | true =>
      have hlo : ∃ o, ops[i]? = some o ∧ light o = true := ⟨_, hoi, hli⟩
      have hfrom : fromA bef (heavies ops) i ≤ pre.length := by
        rcases Nat.lt_or_ge pre.length (fromA bef (heavies ops) i) with h1 | h1
        · exfalso
          have hle : fromA bef (heavies ops) i ≤ (heavies ops).length := List.length_filter_le _ _
          have hx := List.getElem?_eq_getElem (show pre.length < (heavies ops).length by omega)
          have hb := (R.from_iff d3 hx).2 h1
          have hmem : (heavies ops)[pre.length] ∈ rest := by
            have e : (heavies ops)[pre.length]? = rest[0]? := by rw [hh, List.getElem?_append_right (Nat.le_refl _), Nat.sub_self]
            rw [hx] at e
            exact List.mem_of_getElem? e.symm
          exact hrest _ hmem (d1 _ hb)
        · exact h1
      have htill : pre.length ≤ tillA bef (heavies ops) i := by
        rcases Nat.lt_or_ge (tillA bef (heavies ops) i) pre.length with h1 | h1
        · exfalso
          have hq : ∀ (q : Nat) (hq : q < pre.length), (heavies ops)[q]? = some pre[q] := fun q hq => by rw [hh, List.getElem?_append_left hq]; exact List.getElem?_eq_getElem hq
          have hx := hq _ h1
          have hb := (R.till_iff hx).2 (Nat.le_refl _)
          exact hback _ (hpre _ (List.getElem_mem h1)) hb
        · exact h1
      obtain ⟨⟨o, ho, hgood, hguard, hval, hcase⟩, hseen⟩ := hpend i hlo hfrom htill
      have hsr := seen_rel R hseen hrt d1 hback ho
      have hwr := wanted_rel' hsr hguard hrt.size
      have hopr := op_rel H hsr hgood.1
      -- the next state of the goroutine
      have hnext : ∀ {ρ' : Ren} {v' : Value} {w' : World}, ρ.le ρ' → (∀ b, b < m.next → (∀ β, MkOf P ops i (tmI i) (vI i) β → b ≠ β) → ρ' b = ρ b) → Hold P E w₀ σ ρ' m w' → VRel ρ' (vI i) v' →
          J σ (n + c + l.length) ((permOf ρ' m).or E) (G (b.at (a.put o.dst v') (.inRegion ops l :: k)) cs) w' := by
        intro ρ' v' w' hle hold H' hv
        refine ih (D := fun x => D x ∨ x = i) hk d4 (fun h hm => .inl (hpre h hm)) (fun h hm hd => ?_) H' ((hrt.ren hle).step R ho hv hval a.defers) (by rw [(put_tmps a o.dst v').1]; exact hds.mono fun _ _ x => x.ren hle) (fun j h1 h2 h3 β hβ => ?_) (fun σ' ρ₂ w₂ a₂ hle₂ hold₂ => hfin σ' ρ₂ w₂ a₂ (Ren.le_trans hle hle₂) fun b hb => ?_)
        · rcases hd with hd | rfl
          · exact hrest h hm hd
          · obtain ⟨o', ho', hl'⟩ := mem_heavies.1 (show h ∈ heavies ops by rw [hh]; exact List.mem_append_right _ hm)
            rw [hoi] at ho'; cases ho'
            rw [hli] at hl'; cases hl'
        · rw [hold β (hmade j h1 (by omega) β hβ).2 fun β' hβ' e => ?_]
          · exact hmk j h1 h2 (fun hd => h3 (.inl hd)) β hβ
          · subst e
            exact hapart i j hlo h1 hfrom (by omega) (fun e => h3 (.inr e.symm)) β hβ' hβ
        · rw [hold₂ b hb, hold b (by omega) fun β hβ e => by have := (hmade i hlo hfrom β hβ).1; omega]
      rcases hcase with ⟨hwf, hvu⟩ | ⟨hwt, hlight, _, _⟩
      · refine (hJ σ).le (show (n + c + l.length) + 1 ≤ n + c + (l.length + 1) by omega) ?_
        refine unwanted_real (hJ σ) ho (hwr.trans hwf) fun w₁ hk₁ => ?_
        exact hnext (Ren.le_refl ρ) (fun _ _ _ => rfl) (H.keeps hk₁) (by rw [hvu]; exact vrel_undef)
      · refine (hJ σ).le (show (n + c + l.length) + 1 ≤ n + c + (l.length + 1) by omega) ?_
        have hstill : opA P (evT (tmI i)) o m = some (vI i, m) → J σ (n + c + l.length + 1) ((permOf ρ m).or E) (G (b.at a (.inRegion ops (i :: l) :: k)) cs) w := fun hop =>
          op_real (hJ σ) ho (hwr.trans hwt) hk H hopr hop fun ρ' v' w' hle hold H' hv => hnext hle (fun b hb _ => hold b hb) H' hv
        cases hlight with
        | pure h => exact hstill (h m)
        | look _ h => exact hstill h
        | make mk kb β hm hv hlt hfl hb =>
          have hmo : MkOf P ops i (tmI i) (vI i) β := ⟨o, mk, kb, ho, hm, hv, hwt⟩
          refine make_real hJ ho (hwr.trans hwt) hk H hopr hm (hmk i hlo (by omega) d2 β hmo) hlt hfl hb fun ρ' v' w' hle hold H' hvr => hnext hle (fun b hb1 hb2 => hold b hb1 (hb2 β hmo)) H' (by rw [hv]; exact hvr)
end
end Go.AM
