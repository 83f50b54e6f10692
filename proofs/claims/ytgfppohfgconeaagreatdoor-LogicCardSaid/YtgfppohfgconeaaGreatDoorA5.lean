/-
  A STEP OF THE STARTER's: the machine's side; its own steps; the library's bookkeeping.
-/
import Derived.Test.YtgfppohfgconeaaGreatDoorA4
set_option linter.unusedVariables false
set_option linter.unusedSimpArgs false
namespace Go.AM
open Go Go.Conc
open Go.ConcN (RelBy upd upd_same upd_ne sumTo)
open Go.ConcR (stA smA KK rd wr)

section
variable {P : Program} {Fin : Value → World → Prop} {gs : Array Goroutine} {w w' : World} {t : Trace} {σ σ' : GSt} {n m : Nat} {R R' : Perm} {g a' : Goroutine} {Wg : Nat} {sh : Nat → Prop} {lo : Nat} {D : Nat → WS} {S F : Nat → Nat} {ps : Nat → Post} {b b' : Bool} {sl : Option (Nat × Nat)} {es : Array Event}

theorem IV.run0 (I : IV P Fin gs w t σ n R g Wg sh lo D S F ps false) (hst : stepG P true g w = .go a' w' es) :
    runT P (crowd gs w sl) 0 = (.next (crowd (gs.setIfInBounds 0 a') w' sl), MemOp.ofEvents 0 g.frame.fn g.frame.place es) := by
  have h := runT_crowd_go (P := P) (sl := sl) (i := 0) I.main (show stepG P (0 == 0) (mainB false g) w = .go a' w' es from hst)
  have e : (gs.map (woken P (mainB false g) a' w')).setIfInBounds 0 a' = gs.setIfInBounds 0 a' := by
    apply Array.ext_getElem?
    intro j
    by_cases hj : j = 0
    · subst hj; simp [I.size]
    · rw [Array.getElem?_setIfInBounds_ne (Ne.symm hj), Array.getElem?_setIfInBounds_ne (Ne.symm hj), Array.getElem?_map]
      rcases Nat.lt_or_ge j gs.size with hlt | hge
      · obtain ⟨x, hx, hxs⟩ := I.com.wk j (by omega) hlt
        rw [hx, Option.map_some, hxs.woken]
      · rw [Array.getElem?_eq_none hge]; rfl
  rw [e] at h
  exact h
theorem IV.com0 (I : IV P Fin gs w t σ n R g Wg sh lo D S F ps b) (a' : Goroutine) {u : Trace} (hu : ∀ op ∈ u, op.g = 0) (hkeep : ∀ j U, 0 < j → j < gs.size → (D j).perm? = some U → Keeps U w w')
    (hlay : Lay sh (upd D 0 (.work R')) gs.size w') (hti : TI Wg sh (upd D 0 (.work R')) gs.size w'.heap.size (t ++ u)) : Com P Wg sh lo (upd D 0 (.work R')) S F ps (gs.setIfInBounds 0 a') w' (t ++ u) := by
  have hsz : (gs.setIfInBounds 0 a').size = gs.size := by simp
  refine ⟨by rw [hsz]; exact I.com.lom, fun j hj0 hj => ?_, I.com.old, fun j h1 h2 => I.com.act j h1 (by rw [hsz] at h2; exact h2), fun j T r hj hjr => ?_, by rw [hsz]; exact I.com.stab, fun j hj => ?_, by rw [hsz]; exact hlay, by rw [hsz]; exact hti⟩
  · rw [hsz] at hj
    obtain ⟨x, hx, hxs⟩ := I.com.wk j hj0 hj
    refine ⟨x, by rw [Array.getElem?_setIfInBounds_ne (by omega)]; exact hx, ?_⟩
    rw [upd_ne _ _ (by omega), Deaf_other t (by omega) _ hu]
    exact hxs.keeps fun T hT => hkeep j T hj0 hj hT
  · rw [hsz] at hj
    rcases Nat.eq_zero_or_pos j with rfl | hp
    · rw [upd_same] at hjr; cases hjr
    · rw [upd_ne _ _ (by omega)] at hjr
      have hlo : lo ≤ j := Nat.le_of_not_lt fun hlt => by
        obtain ⟨x, _, hxs⟩ := I.com.wk j hp hj
        rw [I.com.old j hlt, hjr] at hxs
        cases hxs
      exact I.com.stab j hlo hj T w w' (I.com.post j T r hj hjr) (hkeep j T hp hj (by rw [hjr]; rfl))
  · rw [hsz] at hj
    rw [Deaf_other t (show 0 ≠ j by have := I.size; omega) _ hu]
    exact I.com.above j hj
/-- Whatever step of the starter's that leaves the others where they stand. -/
theorem IV.mainGo (I : IV P Fin gs w t σ n R g Wg sh lo D S F ps false) (hst : stepG P true g w = .go a' w' es) {g' : Goroutine} (ha' : a' = mainB b' g') (hblk : b' = true → g'.status = .running ∧ g'.offers = none)
    (hm : m < n ∨ (m = n ∧ b' = true)) (hjm : JM P Fin σ' m R' g' w') (hdf : deafBehind R.deaf es = R'.deaf) (hkeep : ∀ j U, 0 < j → j < gs.size → (D j).perm? = some U → Keeps U w w')
    (hlay : Lay sh (upd D 0 (.work R')) gs.size w') (hti : TI Wg sh (upd D 0 (.work R')) gs.size w'.heap.size (t ++ MemOp.ofEvents 0 g.frame.fn g.frame.place es)) (hgrp : GrpOk σ' Wg sh lo gs.size S ps b' w') :
    ∃ m₁ ops μ', runT P (crowd gs w sl) 0 = (.next m₁, ops) ∧ Lt2 μ' (meas n false gs.size F) ∧ Inv P Fin μ' m₁ (t ++ ops) := by
  have hsz : (gs.setIfInBounds 0 a').size = gs.size := by simp
  refine ⟨_, _, meas m b' (gs.setIfInBounds 0 a').size F, I.run0 hst, ?_, _, w', sl, σ', m, R', g', Wg, sh, lo, upd D 0 (.work R'), S, F, ps, b', rfl, ⟨?_, hblk, hjm, upd_same .., ?_, I.com0 a' Go.ConcR.g_of_ofEvents hkeep hlay hti, by rw [hsz]; exact hgrp⟩, rfl⟩
  · rw [hsz]
    unfold meas
    rcases hm with h | ⟨rfl, rfl⟩
    · exact Prod.Lex.left _ _ h
    · exact Prod.Lex.right _ (by simp)
  · rw [Array.getElem?_setIfInBounds_self_of_lt I.size, ha']
  · rw [Deaf_own, I.deaf, hdf]

/-- An own step. -/
theorem IV.mainOwn (I : IV P Fin gs w t σ n R g Wg sh lo D S F ps false) (hst : Stepped P true R g w R' a' w' es) (hm : m < n) (hjm : JM P Fin σ m R' a' w') :
    ∃ m₁ ops μ', runT P (crowd gs w sl) 0 = (.next m₁, ops) ∧ Lt2 μ' (meas n false gs.size F) ∧ Inv P Fin μ' m₁ (t ++ ops) := by
  have hp : (D 0).perm? = some R := by rw [I.perm]; rfl
  have hlR := I.low0
  have hkeep : ∀ j U, 0 < j → j < gs.size → (D j).perm? = some U → Keeps U w w' := fun j U hj hjs hU => keeps_chg hst.chg (I.com.lay.dis 0 j R U (by omega) I.size hjs hp hU) (I.com.lay.low j U hjs hU)
  refine I.mainGo (b' := false) (g' := a') (m := m) hst.step rfl (fun h => by cases h) (.inl hm) hjm hst.deaf.symm hkeep ?_ ?_ ?_
  · exact I.com.lay.own I.size I.perm hst.within (hst.low hlR) hst.chg.size fun j U hj hjs hU => hkeep j U (by omega) hjs hU
  · refine I.com.ti.app I.com.lay I.size hst.chg.size (fun j hj => upd_ne _ _ hj) (.inr ⟨R, R', I.perm, upd_same .., hst.within⟩) Go.ConcR.g_of_ofEvents (fun op hop bb hb => ?_) (fun op hop ad => ?_) (fun op hop bb hb => ?_) (fun T₁ r h => by rw [I.perm] at h; cases h)
    · obtain ⟨e, he, rfl⟩ := Go.Conc.mem_ofEvents hop
      exact Loc.low_mono hst.chg.size (inR_low hlR (ev_touch hlR.wr (hst.ev e he) hb).1)
    · obtain ⟨e, he, rfl⟩ := Go.Conc.mem_ofEvents hop
      exact ev_norel (hst.ev e he) ad
    · obtain ⟨e, he, rfl⟩ := Go.Conc.mem_ofEvents hop
      exact .inl ⟨R, I.perm, ev_touch hlR.wr (hst.ev e he) hb⟩
  · have hg := I.grp
    cases σ with
    | wrk => exact hg.elim
    | idle => exact hg
    | grp gr =>
      obtain ⟨h1, h2, h3, st, sm, h4, h5⟩ := hg
      exact ⟨h1, h2, h3, st, sm, h4.chg hst.chg (I.com.lay.sh Wg h2) fun o ho hw => I.com.lay.shy 0 R I.size hp Wg o (hlR.wr _ _ hw) h2 ho, h5⟩
/-- Bookkeeping: at most the group's cells turn; atomic touches of them, or the library's word on them. -/
theorem IV.mainBook (I : IV P Fin gs w t σ n R g Wg sh lo D S F ps false) (hst : stepG P true g w = .go a' w' es) {g' : Goroutine} (ha' : a' = mainB b' g') (hblk : b' = true → g'.status = .running ∧ g'.offers = none)
    (hm : m < n ∨ (m = n ∧ b' = true)) (hjm : JM P Fin σ' m R g' w) (hdf : deafBehind R.deaf es = R.deaf) (hkeep : ∀ j U, j < gs.size → (D j).perm? = some U → Keeps U w w') (hsz : w'.heap.size = w.heap.size) (hsh : sh Wg)
    (hev : ∀ e ∈ es, BkE Wg e ∨ e = Go.ConcR.mk (.read (smA Wg)) ∨ e = Go.ConcR.mk (.write (smA Wg))) (hgrp : GrpOk σ' Wg sh lo gs.size S ps b' w') :
    ∃ m₁ ops μ', runT P (crowd gs w sl) 0 = (.next m₁, ops) ∧ Lt2 μ' (meas n false gs.size F) ∧ Inv P Fin μ' m₁ (t ++ ops) := by
  have hself : upd D 0 (.work R) = D := by rw [← I.perm]; exact upd_self D 0
  have hW : Wg < w.heap.size := I.com.lay.sh Wg hsh
  have htch : ∀ e ∈ es, ∀ bb, (MemAct.ofEvent e).touch? = some bb → shl sh bb.loc ∧ bb.kind ≠ .plain ∧ bb.loc.low w.heap.size := by
    intro e he bb hb
    rcases hev e he with h | rfl | rfl
    · rcases bkE_touch h with h | ⟨o, wri, ho, _, h⟩
      · rw [h] at hb; cases hb
      · rw [h] at hb; cases hb
        exact ⟨⟨hsh, rfl, ho⟩, by simp, hW⟩
    · simp only [Go.ConcR.mk, MemAct.ofEvent, MemAct.touch?, Option.some.injEq] at hb
      subst hb
      exact ⟨⟨hsh, rfl, by simp [smA]⟩, by simp, hW⟩
    · simp only [Go.ConcR.mk, MemAct.ofEvent, MemAct.touch?, Option.some.injEq] at hb
      subst hb
      exact ⟨⟨hsh, rfl, by simp [smA]⟩, by simp, hW⟩
  refine I.mainGo (g' := g') hst ha' hblk hm (hjm.keeps (hkeep 0 R I.size (by rw [I.perm]; rfl))) hdf (fun j U _ hj hU => hkeep j U hj hU) ?_ ?_ hgrp
  · rw [hself]; exact I.com.lay.turn (by omega) hkeep
  · rw [hself, hsz]
    refine I.com.ti.app I.com.lay I.size (Nat.le_refl _) (fun _ _ => rfl) (.inl rfl) Go.ConcR.g_of_ofEvents (fun op hop bb hb => ?_) (fun op hop ad => ?_) (fun op hop bb hb => ?_) (fun T₁ r h => by rw [I.perm] at h; cases h)
    · obtain ⟨e, he, rfl⟩ := Go.Conc.mem_ofEvents hop
      exact (htch e he bb hb).2.2
    · obtain ⟨e, he, rfl⟩ := Go.Conc.mem_ofEvents hop
      rcases hev e he with h | rfl | rfl
      · exact bkE_norel h ad
      · simp [Go.ConcR.mk, MemAct.ofEvent]
      · simp [Go.ConcR.mk, MemAct.ofEvent]
    · obtain ⟨e, he, rfl⟩ := Go.Conc.mem_ofEvents hop
      have h := htch e he bb hb
      exact .inr ⟨by rw [I.perm]; simp, h.1, h.2.1, fun _ => rfl⟩
end
end Go.AM
/-
  A STEP OF THE STARTER's: a group is begun; a goroutine is started; all are joined; the end.
-/
set_option linter.unusedVariables false
set_option linter.unusedSimpArgs false
namespace Go.AM
open Go Go.Conc
open Go.ConcN (RelBy upd upd_same upd_ne sumTo sumTo_congr)
open Go.ConcR (stA smA KK rd wr)

theorem lt2_trans {a b c : Nat × Nat} (h : Lt2 a b) (h' : Lt2 b c) : Lt2 a c := by
  obtain ⟨a1, a2⟩ := a
  obtain ⟨b1, b2⟩ := b
  obtain ⟨c1, c2⟩ := c
  rcases Prod.lex_def.1 h with h | ⟨h1, h2⟩ <;> rcases Prod.lex_def.1 h' with k | ⟨k1, k2⟩ <;> simp only at *
  · exact Prod.Lex.left _ _ (by omega)
  · exact Prod.Lex.left _ _ (by omega)
  · exact Prod.Lex.left _ _ (by omega)
  · subst h1; subst k1; exact Prod.Lex.right _ (by omega)
theorem deaf_two {t : Trace} {x y : MemOp} {k : Nat} (hx : x.g = 0 ∧ x.act = .go k) (hy : y.g = k ∧ y.act = .start) (j : Nat) : Deaf (t ++ #[x, y]) j = Deaf t j := by
  have := Deaf_append t j [x, y]
  rw [show ([x, y] : List MemOp).toArray = #[x, y] from rfl] at this
  rw [this]
  simp [deafStep, hx.2, hy.2]
theorem vc_none {size : Nat} {S : Nat → Nat} (h : ∀ i, i < size → S i = 0) : Vc size S = 0 := by
  unfold Vc
  rw [sumTo_congr (g := fun _ => 0) fun i hi => by rw [h i hi]; rfl]
  induction size with
  | zero => rfl
  | succ k ih => simp only [sumTo]; exact ih fun i hi => h i (by omega)
theorem vc_some {S : Nat → Nat} : ∀ {size : Nat}, 1 ≤ Vc size S → ∃ i, i < size ∧ 5 ≤ S i
  | 0, h => by simp [Vc, sumTo] at h
  | k + 1, h => by
    by_cases h5 : 5 ≤ S k
    · exact ⟨k, by omega, h5⟩
    · have : 1 ≤ Vc k S := by simp only [Vc, sumTo, h5, if_false] at h ⊢; omega
      obtain ⟨i, h1, h2⟩ := vc_some this
      exact ⟨i, by omega, h2⟩

section
variable {P : Program} {Fin : Value → World → Prop} {gs : Array Goroutine} {w w' : World} {t : Trace} {σ σ' : GSt} {n m : Nat} {R R' R₁ Rc : Perm} {g g' a' child : Goroutine} {Wg : Nat} {sh : Nat → Prop} {lo : Nat} {D : Nat → WS} {S F : Nat → Nat} {ps : Nat → Post} {b b' : Bool} {sl : Option (Nat × Nat)} {es : Array Event}

theorem IV.oldOf (I : IV P Fin gs w t σ n R g Wg sh lo D S F ps b) {j : Nat} (h0 : 0 < j) (hj : j < gs.size) (hS : S j = 0) : D j = .old ∧ ∃ x, gs[j]? = some x ∧ QuitsD P (F j) (Deaf t j) x := by
  obtain ⟨x, hx, hxs⟩ := I.com.wk j h0 hj
  rw [hS] at hxs
  generalize hD : D j = ws at hxs
  generalize hd : Deaf t j = d at hxs
  generalize F j = f at hxs
  cases hxs with
  | old hq => exact ⟨rfl, x, hx, hd ▸ hq⟩

/-- A group is begun: no step of the machine's. -/
theorem IV.begins (I : IV P Fin gs w t .idle n R g Wg sh lo D S F ps false) {Wg' : Nat} (hs : SubP R₁ R) (hwr : ∀ b o, R₁.wr b o → R₁.rd b o) (hd : R₁.deaf = R.deaf) (h0 : R.wr Wg' 0) (h1 : R.wr Wg' 1) (hwg : WgC Wg' w 0 0) (hno : ∀ o, o ≤ 1 → ¬ R₁.rd Wg' o)
    (hjm : JM P Fin (.grp ⟨Wg', [], .opn 0⟩) m R₁ g w) : IV P Fin gs w t (.grp ⟨Wg', [], .opn 0⟩) m R₁ g Wg' (fun b => sh b ∨ b = Wg') lo (upd D 0 (.work R₁)) S F ps false := by
  obtain ⟨hlo, _⟩ : lo = gs.size ∧ false = false := I.grp
  have hS : ∀ j, j < gs.size → S j = 0 := fun j hj => I.com.old j (by omega)
  have hold : ∀ j, 0 < j → j < gs.size → D j = .old := fun j hj0 hj => (I.oldOf hj0 hj (hS j hj)).1
  have hn : ∀ j, 0 < j → upd D 0 (.work R₁) j = D j := fun j hj => upd_ne D _ (by omega)
  have hlR := I.low0
  have hl1 : Low R₁ w := ⟨fun b o x => hlR.rd b o (hs.rd b o x), hwr, fun b x => hlR.ob b (hs.ob b x)⟩
  refine ⟨I.main, fun h => (by cases h), hjm, upd_same .., I.deaf.trans hd.symm, ⟨I.com.lom, fun j hj0 hj => ?_, I.com.old, I.com.act, fun j T r hj hjr => ?_, I.com.stab, I.com.above, ?_, I.com.ti.begin I.perm hold hs h0 h1 I.size⟩, ?_⟩
  · obtain ⟨e, x, hx, hq⟩ := I.oldOf hj0 hj (hS j hj)
    refine ⟨x, hx, ?_⟩
    rw [hn j hj0, e, hS j hj]
    exact .old hq
  · rcases Nat.eq_zero_or_pos j with rfl | hp
    · rw [upd_same] at hjr; cases hjr
    · rw [hn j hp, hold j hp hj] at hjr; cases hjr
  · have key : ∀ j T, j < gs.size → (upd D 0 (.work R₁) j).perm? = some T → j = 0 ∧ T = R₁ := by
      intro j T hj hT
      rcases Nat.eq_zero_or_pos j with rfl | hp
      · rw [upd_same] at hT; exact ⟨rfl, (Option.some.inj hT).symm⟩
      · rw [hn j hp, hold j hp hj] at hT; cases hT
    refine ⟨fun j T hj hT => ?_, fun i j T U hij hi hj hT hU => ?_, fun j T hj hT b o hr hb => ?_, fun b hb => ?_⟩
    · obtain ⟨_, rfl⟩ := key j T hj hT; exact hl1
    · obtain ⟨rfl, _⟩ := key i T hi hT
      obtain ⟨rfl, _⟩ := key j U hj hU
      exact absurd rfl hij
    · obtain ⟨rfl, rfl⟩ := key j T hj hT
      rcases hb with hb | rfl
      · exact I.com.lay.shy 0 R I.size (by rw [I.perm]; rfl) b o (hs.rd b o hr) hb
      · exact fun ho => hno o ho hr
    · rcases hb with hb | rfl
      · exact I.com.lay.sh b hb
      · exact hlR.rd b 0 (hlR.wr b 0 h0)
  · refine ⟨rfl, .inr rfl, by simp [hlo], 0, 0, hwg, ?_⟩
    have hv := vc_none hS
    have : Mode lo gs.size S (.opn 0) false ((Vc gs.size S : Nat) * KK) 0 := .opn (fun i h1 h2 => by omega) (by omega) (by omega)
    rw [hv] at this
    simpa using this

/-- A goroutine is started. -/
theorem IV.spawns {V kc : Nat} {pl : List Post} {p : Post} (I : IV P Fin gs w t (.grp ⟨Wg, pl, .added V⟩) n R g Wg sh lo D S F ps false) (h0 : R.deaf = 0) (hst : stepG P true g w = .spawn g' child w #[])
    (h1 : SubP R₁ R) (hc : SubP Rc R) (hw1 : ∀ b o, R₁.wr b o → R₁.rd b o) (hwc : ∀ b o, Rc.wr b o → Rc.rd b o) (hd1 : R₁.deaf = 0) (hdc : Rc.deaf = 0) (hdis : Dis R₁ Rc) (hdis' : Dis Rc R₁) (hstab : Stable p) (hjw : JW P Wg p kc Rc child w) (hm : m < n)
    (hjm : JM P Fin (.grp ⟨Wg, p :: pl, .opn (V + 1)⟩) m R₁ g' w) :
    ∃ m₁ ops μ', runT P (crowd gs w sl) 0 = (.next m₁, ops) ∧ Lt2 μ' (meas n false gs.size F) ∧ Inv P Fin μ' m₁ (t ++ ops) := by
  have hrun := runT_crowd_spawn (P := P) (sl := sl) (i := 0) I.main (show stepG P (0 == 0) (mainB false g) w = .spawn g' child w #[] from hst)
  obtain ⟨_, hsh, hpl, st, sm, hwg, hmode⟩ := I.grp
  have hpos := I.size
  have hlR := I.low0
  obtain ⟨x, hx⟩ : ∃ x : MemOp, x = { g := 0, fn := (mainB false g).frame.fn, pos := (mainB false g).frame.place, act := .go gs.size } := ⟨_, rfl⟩
  obtain ⟨y, hy⟩ : ∃ y : MemOp, y = { g := gs.size, fn := child.frame.fn, pos := (mainB false g).frame.place, act := .start } := ⟨_, rfl⟩
  have hops : ((MemOp.ofEvents 0 (mainB false g).frame.fn (mainB false g).frame.place #[]).push x).push y = #[x, y] := by rw [ofEvents_eq]; simp
  rw [← hx, ← hy, hops] at hrun
  have hxg : x.g = 0 ∧ x.act = .go gs.size := by rw [hx]; exact ⟨rfl, rfl⟩
  have hyg : y.g = gs.size ∧ y.act = .start := by rw [hy]; exact ⟨rfl, rfl⟩
  have hsz : ((gs.setIfInBounds 0 g').push child).size = gs.size + 1 := by simp
  have hlo := I.com.lom
  have hn : ∀ {α : Type} (f : Nat → α) (v : α) j, j < gs.size → upd f gs.size v j = f j := fun f v j hj => upd_ne f v (by omega)
  have hD : ∀ j, 0 < j → j < gs.size → upd (upd D 0 (.work R₁)) gs.size (.work Rc) j = D j := fun j h1 h2 => by rw [hn _ _ j h2, upd_ne _ _ (by omega)]
  have hD0 : upd (upd D 0 (.work R₁)) gs.size (.work Rc) 0 = .work R₁ := by rw [hn _ _ 0 hpos, upd_same]
  have three : ∀ j, j < gs.size + 1 → j = 0 ∨ (0 < j ∧ j < gs.size) ∨ j = gs.size := fun j hj => by omega
  refine ⟨_, _, meas m false ((gs.setIfInBounds 0 g').push child).size (upd F gs.size kc), hrun, Prod.Lex.left _ _ hm, _, w, sl, .grp ⟨Wg, p :: pl, .opn (V + 1)⟩, m, R₁, g', Wg, sh, lo, upd (upd D 0 (.work R₁)) gs.size (.work Rc), upd S gs.size 7, upd F gs.size kc, upd ps gs.size p, false, rfl,
    ⟨?_, fun h => (by cases h), hjm, hD0, ?_, ⟨?_, fun j hj0 hj' => ?_, fun j hj' => ?_, fun j h1' h2 => ?_, fun j T r hj' hjr => ?_, fun j h1' h2 => ?_, fun j hj' => ?_, ?_, ?_⟩, ?_⟩, rfl⟩
  · rw [Array.getElem?_push_lt (by simp; omega), ← Array.getElem?_eq_getElem]
    simp [mainB, hpos]
  · rw [deaf_two hxg hyg, I.deaf, h0, hd1]
  · rw [hsz]; omega
  · rw [hsz] at hj'
    rw [deaf_two hxg hyg]
    rcases three j hj' with rfl | ⟨_, g2⟩ | rfl
    · omega
    · obtain ⟨z, hz, hzs⟩ := I.com.wk j hj0 g2
      refine ⟨z, ?_, by rw [hD j hj0 g2, hn _ _ j g2, hn _ _ j g2, hn _ _ j g2]; exact hzs⟩
      rw [Array.getElem?_push_lt (by simp; omega), ← Array.getElem?_eq_getElem, Array.getElem?_setIfInBounds_ne (by omega)]
      exact hz
    · refine ⟨child, ?_, ?_⟩
      · have e : gs.size = (gs.setIfInBounds 0 g').size := by simp
        conv => lhs; rw [e]
        exact Array.getElem?_push_size
      · simp only [upd_same]
        rw [I.com.above gs.size (Nat.le_refl _), ← hdc]
        exact .work hjw
  · rw [hn _ _ j (by omega)]; exact I.com.old j hj'
  · rw [hsz] at h2
    rcases Nat.lt_or_ge j gs.size with hlt | hge
    · rw [hn _ _ j hlt]; exact I.com.act j h1' hlt
    · obtain rfl : j = gs.size := by omega
      rw [upd_same]; omega
  · rw [hsz] at hj'
    rcases three j hj' with rfl | ⟨g1, g2⟩ | rfl
    · rw [hD0] at hjr; cases hjr
    · rw [hD j g1 g2] at hjr
      rw [hn _ _ j g2]
      exact I.com.post j T r g2 hjr
    · rw [upd_same] at hjr; cases hjr
  · rw [hsz] at h2
    rcases Nat.lt_or_ge j gs.size with hlt | hge
    · rw [hn _ _ j hlt]; exact I.com.stab j h1' hlt
    · obtain rfl : j = gs.size := by omega
      rw [upd_same]; exact hstab
  · rw [hsz] at hj'
    rw [deaf_two hxg hyg]
    exact I.com.above j (by omega)
  · rw [hsz]
    have key : ∀ j T, j < gs.size + 1 → (upd (upd D 0 (.work R₁)) gs.size (.work Rc) j).perm? = some T → (j = 0 ∧ T = R₁) ∨ (0 < j ∧ j < gs.size ∧ (D j).perm? = some T) ∨ (j = gs.size ∧ T = Rc) := by
      intro j T hj hT
      rcases three j hj with rfl | ⟨g1, g2⟩ | rfl
      · rw [hD0] at hT; exact .inl ⟨rfl, (Option.some.inj hT).symm⟩
      · rw [hD j g1 g2] at hT; exact .inr (.inl ⟨g1, g2, hT⟩)
      · rw [upd_same] at hT; exact .inr (.inr ⟨rfl, (Option.some.inj hT).symm⟩)
    have hp : (D 0).perm? = some R := by rw [I.perm]; rfl
    have dl : ∀ {T U : Perm}, SubP T R → Dis R U → Dis T U := fun h d => ⟨fun b o x => d.cell b o (h.wr b o x), fun b x => d.obj b (h.ob b x)⟩
    have dr : ∀ {T U : Perm}, SubP T R → Dis U R → Dis U T := fun h d => ⟨fun b o x y => d.cell b o x (h.rd b o y), fun b x y => d.obj b x (h.ob b y)⟩
    refine ⟨fun j T hj hT => ?_, fun i j T U hij hi hj hT hU => ?_, fun j T hj hT b o hr hb => ?_, I.com.lay.sh⟩
    · rcases key j T hj hT with ⟨_, rfl⟩ | ⟨_, g2, hT'⟩ | ⟨_, rfl⟩
      · exact ⟨fun b o x => hlR.rd b o (h1.rd b o x), hw1, fun b x => hlR.ob b (h1.ob b x)⟩
      · exact I.com.lay.low j T g2 hT'
      · exact ⟨fun b o x => hlR.rd b o (hc.rd b o x), hwc, fun b x => hlR.ob b (hc.ob b x)⟩
    · rcases key i T hi hT with ⟨rfl, rfl⟩ | ⟨g1, g2, hT'⟩ | ⟨rfl, rfl⟩ <;> rcases key j U hj hU with ⟨rfl, rfl⟩ | ⟨g3, g4, hU'⟩ | ⟨rfl, rfl⟩
      · exact absurd rfl hij
      · exact dl h1 (I.com.lay.dis 0 j R U hij hpos g4 hp hU')
      · exact hdis
      · exact dr h1 (I.com.lay.dis i 0 T R hij g2 hpos hT' hp)
      · exact I.com.lay.dis i j T U hij g2 g4 hT' hU'
      · exact dr hc (I.com.lay.dis i 0 T R (by omega) g2 hpos hT' hp)
      · exact hdis'
      · exact dl hc (I.com.lay.dis 0 j R U (by omega) hpos g4 hp hU')
      · exact absurd rfl hij
    · rcases key j T hj hT with ⟨_, rfl⟩ | ⟨_, g2, hT'⟩ | ⟨_, rfl⟩
      · exact I.com.lay.shy 0 R hpos hp b o (h1.rd b o hr) hb
      · exact I.com.lay.shy j T g2 hT' b o hr hb
      · exact I.com.lay.shy 0 R hpos hp b o (hc.rd b o hr) hb
  · rw [hsz]
    exact I.com.ti.fork I.perm h1 hc hpos hxg hyg (I.deaf.trans h0) (I.com.above gs.size (Nat.le_refl _))
  · rw [hsz]
    refine ⟨rfl, hsh, ?_, st, sm, hwg, ?_⟩
    · rw [show gs.size + 1 - lo = (gs.size - lo) + 1 by omega, List.range_succ, List.map_append, List.reverse_append]
      simp only [List.map_cons, List.map_nil, List.reverse_cons, List.reverse_nil, List.nil_append, List.cons_append]
      rw [show lo + (gs.size - lo) = gs.size by omega, upd_same]
      show p :: pl = p :: _
      rw [show pl = _ from hpl]
      congr 2
      refine List.map_congr_left fun i hi => ?_
      rw [hn _ _ _ (by have := List.mem_range.1 hi; omega)]
    · have hv : Vc (gs.size + 1) (upd S gs.size 7) = Vc gs.size S + 1 := by
        simp only [Vc, sumTo, upd_same]
        rw [sumTo_congr (g := fun i => if 5 ≤ S i then 1 else 0) fun i hi => by rw [hn _ _ i hi]]
        rfl
      cases hmode with
      | added h2 h3 h4 =>
        have : Mode lo (gs.size + 1) (upd S gs.size 7) (.opn (V + 1)) false ((Vc (gs.size + 1) (upd S gs.size 7) : Nat) * KK) 0 := .opn (fun i h5 h6 => by
          rcases Nat.lt_or_ge i gs.size with hlt | hge
          · rw [hn _ _ i hlt]; exact h2 i h5 hlt
          · obtain rfl : i = gs.size := by omega
            rw [upd_same]; simp) (by omega) (by omega)
        rw [hv] at this
        simpa using this
end
end Go.AM
/-
  A STEP OF THE STARTER's, all kinds; the run ends, in 'Good'.
-/
set_option linter.unusedVariables false
set_option linter.unusedSimpArgs false
namespace Go.AM
open Go Go.Conc
open Go.ConcN (RelBy upd upd_same upd_ne sumTo sumTo_congr)
open Go.ConcR (stA smA KK rd wr)

section
variable {P : Program} {Fin : Value → World → Prop} {gs : Array Goroutine} {w w' : World} {t : Trace} {σ σ' : GSt} {n m : Nat} {R R' R₁ Rc : Perm} {g g' a' child : Goroutine} {Wg : Nat} {sh : Nat → Prop} {lo : Nat} {D : Nat → WS} {S F : Nat → Nat} {ps : Nat → Post} {b b' : Bool} {sl : Option (Nat × Nat)} {es : Array Event}

theorem IV.relOf (I : IV P Fin gs w t σ n R g Wg sh lo D S F ps b) {j : Nat} (h0 : 0 < j) (hj : j < gs.size) (hS : S j = 1) : ∃ T r, D j = .rel T r ∧ ∃ x, gs[j]? = some x ∧ QuitsD P (F j) (Deaf t j) x := by
  obtain ⟨x, hx, hxs⟩ := I.com.wk j h0 hj
  rw [hS] at hxs
  generalize hD : D j = ws at hxs
  generalize hd : Deaf t j = d at hxs
  generalize F j = f at hxs
  cases hxs with
  | gone hq => exact ⟨_, _, rfl, x, hx, hd ▸ hq⟩

/-- All are joined. -/
theorem IV.joins {pl : List Post} (I : IV P Fin gs w t (.grp ⟨Wg, pl, .fin⟩) n R g Wg sh lo D S F ps false) (h0 : R.deaf = 0) (hst : stepG P true g w = .go g' w #[Go.ConcR.mk (.acquire (stA Wg))]) (hm : m < n)
    (hj : ∀ Rs : List Perm, Rel2 (fun p S => p.ok S w ∧ Low S w ∧ Dis R S ∧ Dis S R) pl Rs → Rs.Pairwise (fun S T => Dis S T ∧ Dis T S) →
        ∃ R', R'.deaf = 0 ∧ (∀ b o, R'.wr b o → R'.rd b o) ∧ (∀ b o, R'.rd b o → R.rd b o ∨ ∃ S ∈ Rs, S.rd b o) ∧ (∀ b, R'.ob b → R.ob b ∨ ∃ S ∈ Rs, S.ob b) ∧ JM P Fin .idle m R' g' w) :
    ∃ m₁ ops μ', runT P (crowd gs w sl) 0 = (.next m₁, ops) ∧ Lt2 μ' (meas n false gs.size F) ∧ Inv P Fin μ' m₁ (t ++ ops) := by
  have hrun := I.run0 (sl := sl) hst
  obtain ⟨_, hsh, hpl, st, sm, hwg, hmode⟩ := I.grp
  have hq : AllQuit lo gs.size S := by cases hmode with | fin h => exact h
  have hlo := I.com.lom
  have hpos := I.size
  have hp0 : (D 0).perm? = some R := by rw [I.perm]; rfl
  have hrel : ∀ j, lo ≤ j → j < gs.size → ∃ T r, D j = .rel T r ∧ ∃ x, gs[j]? = some x ∧ QuitsD P (F j) (Deaf t j) x := fun j h1 h2 => I.relOf (by omega) h2 (hq j h1 h2)
  -- the leaves of those that are joined
  let pm : Nat → Perm := fun i => ((D (lo + i)).perm?).getD R
  have hpm : ∀ i, i < gs.size - lo → ∃ r, D (lo + i) = .rel (pm i) r ∧ (D (lo + i)).perm? = some (pm i) := fun i hi => by
    obtain ⟨T, r, hT, _⟩ := hrel (lo + i) (by omega) (by omega)
    have : pm i = T := by show ((D (lo + i)).perm?).getD R = T; rw [hT]; rfl
    exact ⟨r, by rw [this]; exact hT, by rw [this, hT]; rfl⟩
  have hR2 : Rel2 (fun p S => p.ok S w ∧ Low S w ∧ Dis R S ∧ Dis S R) pl ((List.range (gs.size - lo)).reverse.map pm) := by
    rw [show pl = _ from hpl, ← List.map_reverse]
    refine Rel2.map_same fun i hi => ?_
    have hi' : i < gs.size - lo := by simpa using hi
    obtain ⟨r, h1, h2⟩ := hpm i hi'
    exact ⟨I.com.post (lo + i) (pm i) r (by omega) h1, I.com.lay.low (lo + i) (pm i) (by omega) h2, I.com.lay.dis 0 (lo + i) R (pm i) (by omega) hpos (by omega) hp0 h2, I.com.lay.dis (lo + i) 0 (pm i) R (by omega) (by omega) hpos h2 hp0⟩
  have hPW : ((List.range (gs.size - lo)).reverse.map pm).Pairwise (fun S T => Dis S T ∧ Dis T S) := by
    rw [List.pairwise_map]
    have hnd : (List.range (gs.size - lo)).reverse.Nodup := List.pairwise_reverse.2 (List.Pairwise.imp (fun h => Ne.symm h) List.nodup_range)
    refine List.Pairwise.imp_of_mem (fun {i j} hi hj hne => ?_) hnd
    have hi' : i < gs.size - lo := by simpa using hi
    have hj' : j < gs.size - lo := by simpa using hj
    obtain ⟨_, _, h2⟩ := hpm i hi'
    obtain ⟨_, _, h4⟩ := hpm j hj'
    have hne' : lo + i ≠ lo + j := fun h => hne (by omega)
    exact ⟨I.com.lay.dis (lo + i) (lo + j) _ _ hne' (by omega) (by omega) h2 h4, I.com.lay.dis (lo + j) (lo + i) _ _ (Ne.symm hne') (by omega) (by omega) h4 h2⟩
  obtain ⟨R', hd', hwr', hrd', hob', hjm⟩ := hj _ hR2 hPW
  have hmem : ∀ T ∈ (List.range (gs.size - lo)).reverse.map pm, ∃ j, j < gs.size ∧ (D j).perm? = some T := by
    intro T hT
    obtain ⟨i, hi, rfl⟩ := List.mem_map.1 hT
    have hi' : i < gs.size - lo := by simpa using hi
    obtain ⟨_, _, h2⟩ := hpm i hi'
    exact ⟨lo + i, by omega, h2⟩
  have hlR := I.low0
  have hl' : Low R' w := by
    refine ⟨fun b o x => ?_, hwr', fun b x => ?_⟩
    · rcases hrd' b o x with h | ⟨T, hT, h⟩
      · exact hlR.rd b o h
      · obtain ⟨j, hj, hjT⟩ := hmem T hT
        exact (I.com.lay.low j T hj hjT).rd b o h
    · rcases hob' b x with h | ⟨T, hT, h⟩
      · exact hlR.ob b h
      · obtain ⟨j, hj, hjT⟩ := hmem T hT
        exact (I.com.lay.low j T hj hjT).ob b h
  have hshy' : ∀ b o, R'.rd b o → sh b → ¬ o ≤ 1 := by
    intro b o x hb
    rcases hrd' b o x with h | ⟨T, hT, h⟩
    · exact I.com.lay.shy 0 R hpos hp0 b o h hb
    · obtain ⟨j, hj, hjT⟩ := hmem T hT
      exact I.com.lay.shy j T hj hjT b o h hb
  obtain ⟨x, hx⟩ : ∃ x : MemOp, x = { g := 0, fn := g.frame.fn, pos := g.frame.place, act := .mark (.acquire (stA Wg)) } := ⟨_, rfl⟩
  have hops : MemOp.ofEvents 0 g.frame.fn g.frame.place #[Go.ConcR.mk (.acquire (stA Wg))] = #[x] := by rw [ofEvents_eq, hx]; simp [Go.ConcR.ofEvent_mk]
  rw [hops] at hrun
  have hxg : ∀ op ∈ (#[x] : Array MemOp), op.g = 0 := by intro op hop; simp at hop; rw [hop, hx]
  have hdf : ∀ j, Deaf (t ++ #[x]) j = Deaf t j := by
    intro j
    rw [Deaf_push]
    simp [deafStep, hx]
  have hsz : (gs.setIfInBounds 0 g').size = gs.size := by simp
  have key : ∀ j T, (if j = 0 then WS.work R' else .old).perm? = some T → j = 0 ∧ T = R' := by
    intro j T hT
    split at hT
    · rename_i e; exact ⟨e, (Option.some.inj hT).symm⟩
    · cases hT
  refine ⟨_, _, meas m false (gs.setIfInBounds 0 g').size F, hrun, Prod.Lex.left _ _ hm, _, w, sl, .idle, m, R', g', Wg, sh, gs.size, fun j => if j = 0 then .work R' else .old, fun _ => 0, F, ps, false, rfl,
    ⟨?_, fun h => (by cases h), hjm, rfl, ?_, ⟨by rw [hsz]; omega, fun j hj0 hj' => ?_, fun _ _ => rfl, fun j h1 h2 => (by rw [hsz] at h2; omega), fun j T r hj' hjr => ?_, fun j h1 h2 => (by rw [hsz] at h2; omega), fun j hj' => ?_, ?_, ?_⟩, ?_⟩, rfl⟩
  · rw [Array.getElem?_setIfInBounds_self_of_lt hpos]; rfl
  · rw [hdf, I.deaf, h0, hd']
  · rw [hsz] at hj'
    have hj0' : j ≠ 0 := by omega
    have : ∃ x, gs[j]? = some x ∧ QuitsD P (F j) (Deaf t j) x := by
      rcases Nat.lt_or_ge j lo with hlt | hge
      · exact (I.oldOf hj0 hj' (I.com.old j hlt)).2
      · obtain ⟨_, _, _, h⟩ := hrel j hge hj'
        exact h
    obtain ⟨z, hz, hq'⟩ := this
    refine ⟨z, by rw [Array.getElem?_setIfInBounds_ne (by omega)]; exact hz, ?_⟩
    rw [if_neg hj0', hdf]
    exact .old hq'
  · replace hjr : (if j = 0 then WS.work R' else .old) = .rel T r := hjr
    split at hjr <;> cases hjr
  · rw [hsz] at hj'
    rw [hdf]
    exact I.com.above j hj'
  · rw [hsz]
    refine ⟨fun j T hj hT => ?_, fun i j T U hij hi hj hT hU => ?_, fun j T hj hT b o hr hb => ?_, I.com.lay.sh⟩
    · obtain ⟨_, rfl⟩ := key j T hT; exact hl'
    · exact absurd ((key i T hT).1.trans (key j U hU).1.symm) hij
    · obtain ⟨_, rfl⟩ := key j T hT; exact hshy' b o hr hb
  · rw [hsz]
    refine I.com.ti.acquired hpos (fun j h1 h2 => ?_) (by rw [hx]; exact ⟨rfl, rfl⟩) (I.deaf.trans h0) hshy' hwr'
    rcases Nat.lt_or_ge j lo with hlt | hge
    · exact .inr (I.oldOf h1 h2 (I.com.old j hlt)).1
    · obtain ⟨T, r, hT, _⟩ := hrel j hge h2
      exact .inl ⟨T, r, hT⟩
  · exact ⟨hsz.symm, rfl⟩

/-- The end. -/
theorem IV.ends (I : IV P Fin gs w t .idle n R g Wg sh lo D S F ps false) {v : Value} (hst : stepG P true g w = .ended (.done v) w' es) (hev : ∀ e ∈ es, EvOK R e) (hfin : Fin v w') :
    ∃ o w₁ ops, runT P (crowd gs w sl) 0 = (.ended o w₁, ops) ∧ ∀ w₀ sl₀, Good P Fin (crowd gs w₀ sl₀) o w₁ (t ++ ops) := by
  obtain ⟨hlo, _⟩ : lo = gs.size ∧ false = false := I.grp
  have hlR := I.low0
  have hold : ∀ j, 0 < j → j < gs.size → D j = .old ∧ ∃ x, gs[j]? = some x ∧ QuitsD P (F j) (Deaf t j) x := fun j h1 h2 => I.oldOf h1 h2 (I.com.old j (by omega))
  have hti : TI Wg sh D gs.size w.heap.size (t ++ MemOp.ofEvents 0 g.frame.fn g.frame.place es) := by
    refine I.com.ti.app I.com.lay I.size (Nat.le_refl _) (fun _ _ => rfl) (.inl rfl) Go.ConcR.g_of_ofEvents (fun op hop bb hb => ?_) (fun op hop ad => ?_) (fun op hop bb hb => ?_) (fun T₁ r h => by rw [I.perm] at h; cases h)
    · obtain ⟨e, he, rfl⟩ := Go.Conc.mem_ofEvents hop
      exact inR_low hlR (ev_touch hlR.wr (.inl (hev e he)) hb).1
    · obtain ⟨e, he, rfl⟩ := Go.Conc.mem_ofEvents hop
      exact ev_norel (.inl (hev e he)) ad
    · obtain ⟨e, he, rfl⟩ := Go.Conc.mem_ofEvents hop
      exact .inl ⟨R, I.perm, ev_touch hlR.wr (.inl (hev e he)) hb⟩
  refine ⟨_, _, _, runT_many_ended (P := P) (sl := sl) (i := 0) I.main (show stepG P (0 == 0) (mainB false g) w = _ from hst), fun w₀ sl₀ => ⟨v, rfl, hfin, hti.nr, hti.over fun j h1 h2 => (hold j h1 h2).1, ⟨fun x hx => ?_, rfl⟩, fun j x hx hj => ?_⟩⟩
  · obtain ⟨j, hj⟩ := List.mem_iff_getElem?.1 hx
    rw [List.getElem?_drop] at hj
    have hj' : gs[1 + j]? = some x := by simpa [crowd] using hj
    obtain ⟨_, y, hy, hq⟩ := hold (1 + j) (by omega) (Array.getElem?_eq_some_iff.1 hj').1
    rw [hj'] at hy; cases hy
    exact ⟨_, hq.leaves⟩
  · have hx' : gs[j]? = some x := hx
    obtain ⟨_, y, hy, hq⟩ := hold j (by omega) (Array.getElem?_eq_some_iff.1 hx').1
    rw [hx'] at hy; cases hy
    refine ⟨F j, ?_⟩
    have e : (t ++ MemOp.ofEvents 0 g.frame.fn g.frame.place es).deaf j (t ++ MemOp.ofEvents 0 g.frame.fn g.frame.place es).size = Deaf t j :=
      Deaf_other t (g := j) (g' := 0) (by omega) _ Go.ConcR.g_of_ofEvents
    show x.endsWith P w₀ (F j) ((t ++ MemOp.ofEvents 0 g.frame.fn g.frame.place es).deaf j (t ++ MemOp.ofEvents 0 g.frame.fn g.frame.place es).size) = some 0
    rw [e]
    exact hq.hears _

set_option maxHeartbeats 1000000 in
/-- A STEP OF THE STARTER's. -/
theorem step0 : ∀ (n : Nat) {σ : GSt} {R : Perm} {Wg : Nat} {sh : Nat → Prop} {lo : Nat} {D : Nat → WS} {S F : Nat → Nat} {ps : Nat → Post}, IV P Fin gs w t σ n R g Wg sh lo D S F ps false →
    (∃ o w₁ ops, runT P (crowd gs w sl) 0 = (.ended o w₁, ops) ∧ ∀ w₀ sl₀, Good P Fin (crowd gs w₀ sl₀) o w₁ (t ++ ops)) ∨
    (∃ m₁ ops μ', runT P (crowd gs w sl) 0 = (.next m₁, ops) ∧ Lt2 μ' (meas n false gs.size F) ∧ Inv P Fin μ' m₁ (t ++ ops)) := by
  intro n
  induction n using Nat.strongRecOn with
  | _ n ih =>
    intro σ R Wg sh lo D S F ps I
    obtain ⟨m, hm, hs⟩ := I.jm.out
    have hk0 : ∀ j U, j < gs.size → (D j).perm? = some U → Keeps U w w := fun _ _ _ _ => Keeps.refl _ _
    cases hs I.grp.live with
    | own _ h1 h2 => exact .inr (I.mainOwn h1 hm h2)
    | ends _ h1 h2 _ h4 => exact .inl (I.ends h1 h2 h4)
    | begins h1 h2 h3 h4 h5 h6 h7 h8 =>
      rcases ih m hm (I.begins h1 h2 h3 h4 h5 h6 h7 h8) with h | ⟨m₁, ops, μ', g1, g2, g3⟩
      · exact .inl h
      · exact .inr ⟨m₁, ops, μ', g1, lt2_trans g2 (Prod.Lex.left _ _ hm), g3⟩
    | add _ hV h1 =>
      obtain ⟨rfl, hsh, hpl, st, sm, hwg, hmode⟩ := I.grp
      cases hmode with
      | opn h2 h3 h4 =>
        obtain ⟨g', h5, h6⟩ := h1 _ h3 hwg
        have hk : ∀ j U, j < gs.size → (D j).perm? = some U → Keeps U w (setSt _ (((Vc gs.size S : Nat) + 1) * KK) w) := fun j U hj hU => keeps_setSt (I.com.lay.low j U hj hU) (fun o ho hr => I.com.lay.shy j U hj hU _ o hr hsh ho) hwg
        refine .inr (I.mainBook (b' := false) h5 rfl (fun h => by cases h) (.inl hm) h6 (deaf_rdwr (by intro e he; simpa using he) _) hk (size_setCell ..) hsh (fun e he => .inl ?_) ⟨rfl, hsh, hpl, _, _, hwg.setSt _, .added h2 h3 hV⟩)
        simp at he
        rcases he with rfl | rfl
        · exact bk_st _ _
        · exact bk_st _ _
    | said _ h1 h2 h3 =>
      obtain ⟨rfl, hsh, hpl, st, sm, hwg, hmode⟩ := I.grp
      refine .inr (I.mainBook (b' := false) h1 rfl (fun h => by cases h) (.inl hm) h3 ?_ hk0 rfl hsh (fun e he => .inr (h2 e he)) ⟨rfl, hsh, hpl, st, sm, hwg, hmode⟩)
      have := deafBehind_none R.deaf (_ : Array Event).toList fun e he => (h2 e (by simpa using he)).elim (fun x => by rw [x]; simp [Go.ConcR.mk]) fun x => by rw [x]; simp [Go.ConcR.mk]
      simpa using this
    | spawn _ h1 h2 h3 h4 h5 h6 h7 h8 h9 h10 h11 h12 h13 =>
      have hW := I.grp.1
      simp only at hW
      subst hW
      exact .inr (I.spawns h1 h2 h3 h4 h5 h6 h7 h8 h9 h10 h11 h12 hm h13)
    | load _ h1 =>
      obtain ⟨hW, hsh, hpl, st, sm, hwg, hmode⟩ := I.grp
      replace hW := hW.symm
      simp only at hW
      subst hW
      cases hmode with
      | opn h2 h3 h4 =>
        obtain ⟨g', h5, h6, h7⟩ := h1 _ h3 hwg
        have hbk : ∀ e ∈ (#[rd (stA Wg)] : Array Event), BkE Wg e ∨ e = Go.ConcR.mk (.read (smA Wg)) ∨ e = Go.ConcR.mk (.write (smA Wg)) := fun e he => .inl (by simp at he; subst he; exact bk_st _ _)
        have hdf : deafBehind R.deaf (#[rd (stA Wg)] : Array Event) = R.deaf := deaf_rdwr (by intro e he; simp at he; exact .inl he) _
        by_cases hv : Vc gs.size S = 0
        · refine .inr (I.mainBook (b' := false) h5 rfl (fun h => by cases h) (.inl hm) (h6 hv) hdf hk0 rfl hsh hbk ⟨rfl, hsh, hpl, _, _, hwg, ?_⟩)
          have := Mode.fin (allQuit_of h2 hv)
          rw [hv]
          simpa using this
        · exact .inr (I.mainBook (b' := false) h5 rfl (fun h => by cases h) (.inl hm) (h7 hv) hdf hk0 rfl hsh hbk ⟨rfl, hsh, hpl, _, _, hwg, .seen h2 (Nat.le_refl _) (by omega) (by omega)⟩)
    | cas _ h1 =>
      obtain ⟨rfl, hsh, hpl, st, sm, hwg, hmode⟩ := I.grp
      cases hmode with
      | seen h2 h3 h4 h5 =>
        obtain ⟨hhit, hmiss⟩ := h1 _ h3 hwg
        rcases Nat.eq_or_lt_of_le h3 with hv | hv
        · obtain ⟨g', h6, h7⟩ := hhit hv
          have hk : ∀ j U, j < gs.size → (D j).perm? = some U → Keeps U w (setSt _ ((Vc gs.size S : Nat) * KK + 1) w) := fun j U hj hU => keeps_setSt (I.com.lay.low j U hj hU) (fun o ho hr => I.com.lay.shy j U hj hU _ o hr hsh ho) hwg
          refine .inr (I.mainBook (b' := false) h6 rfl (fun h => by cases h) (.inl hm) h7 (deaf_rdwr (by intro e he; simpa using he) _) hk (size_setCell ..) hsh (fun e he => .inl ?_) ⟨rfl, hsh, hpl, _, _, hwg.setSt _, .reg h2 (by omega) (by omega)⟩)
          simp at he
          rcases he with rfl | rfl
          · exact bk_st _ _
          · exact bk_st _ _
        · obtain ⟨g', h6, h7⟩ := hmiss (Nat.ne_of_lt hv)
          exact .inr (I.mainBook (b' := false) h6 rfl (fun h => by cases h) (.inl hm) h7 (deaf_rdwr (by intro e he; simp at he; exact .inl he) _) hk0 rfl hsh (fun e he => .inl (by simp at he; subst he; exact bk_st _ _)) ⟨rfl, hsh, hpl, _, _, hwg, .opn h2 (by omega) (by omega)⟩)
    | sem hr hoff h1 h2 =>
      obtain ⟨rfl, hsh, hpl, st, sm, hwg, hmode⟩ := I.grp
      have hblk : ∀ st', WgC _ w st' 0 → Mode lo gs.size S .reg true st' 0 → (∃ m₁ ops μ', runT P (crowd gs w sl) 0 = (.next m₁, ops) ∧ Lt2 μ' (meas n false gs.size F) ∧ Inv P Fin μ' m₁ (t ++ ops)) := fun st' hw' hmo =>
        I.mainBook (b' := true) (g' := g) (h1 st' hw') rfl (fun _ => ⟨hr, hoff⟩) (.inr ⟨rfl, rfl⟩) I.jm rfl hk0 rfl hsh (fun e he => by simp at he) ⟨rfl, hsh, hpl, st', 0, hw', hmo⟩
      cases hmode with
      | reg h3 h4 h5 => exact .inr (hblk _ hwg (.reg h3 h4 h5))
      | last L h3 h4 h5 h6 => exact .inr (hblk _ hwg (.last L h3 h4 h5 h6))
      | sema h3 =>
        obtain ⟨g', h4, h5⟩ := h2 hwg
        have hk : ∀ j U, j < gs.size → (D j).perm? = some U → Keeps U w (setSm _ 0 w) := fun j U hj hU => keeps_setSm (I.com.lay.low j U hj hU) (fun o ho hr => I.com.lay.shy j U hj hU _ o hr hsh ho) hwg
        refine .inr (I.mainBook (b' := false) h4 rfl (fun h => by cases h) (.inl hm) h5 (by simp [semEvents, deafBehind]) hk (size_setCell ..) hsh (fun e he => .inl ?_) ⟨rfl, hsh, hpl, _, _, hwg.setSm _, .got h3⟩)
        simp [semEvents] at he
        rcases he with rfl | rfl | rfl | rfl
        · exact .inl rfl
        · exact bk_sm _ _
        · exact bk_sm _ _
        · exact .inr (.inl rfl)
    | last _ h1 =>
      obtain ⟨rfl, hsh, hpl, st, sm, hwg, hmode⟩ := I.grp
      cases hmode with
      | got h3 =>
        obtain ⟨g', h4, h5⟩ := h1 hwg
        exact .inr (I.mainBook (b' := false) h4 rfl (fun h => by cases h) (.inl hm) h5 (deaf_rdwr (by intro e he; simp at he; exact .inl he) _) hk0 rfl hsh (fun e he => .inl (by simp at he; subst he; exact bk_st _ _)) ⟨rfl, hsh, hpl, _, _, hwg, .fin h3⟩)
    | acq _ h1 h2 h3 =>
      have hW := I.grp.1
      simp only at hW
      subst hW
      exact .inr (I.joins h1 h2 hm h3)
end
end Go.AM
/-
  THE RUN ENDS, IN 'Good', on whatever tape.
-/
set_option linter.unusedVariables false
set_option linter.unusedSimpArgs false
namespace Go.AM
open Go Go.Conc
open Go.ConcN (RelBy upd upd_same upd_ne sumTo sumTo_congr)
open Go.ConcR (stA smA KK rd wr)

section
variable {P : Program} {Fin : Value → World → Prop} {gs : Array Goroutine} {w w' : World} {t : Trace} {σ σ' : GSt} {n m : Nat} {R : Perm} {g : Goroutine} {Wg : Nat} {sh : Nat → Prop} {lo : Nat} {D : Nat → WS} {S F : Nat → Nat} {ps : Nat → Post} {b : Bool} {sl : Option (Nat × Nat)}

theorem IV.at (I : IV P Fin gs w t σ n R g Wg sh lo D S F ps b) (d : Nat) : IV P Fin gs (w.at d) t σ n R g Wg sh lo D S F ps b := by
  have hk : ∀ T, Keeps T w (w.at d) := fun T => Keeps.at T w d
  refine ⟨I.main, I.blk, I.jm.keeps (hk R), I.perm, I.deaf, ⟨I.com.lom, fun j h1 h2 => ?_, I.com.old, I.com.act, fun j T r hj hjr => ?_, I.com.stab, I.com.above, I.com.lay.turn (Nat.le_refl _) fun j T _ _ => hk T, I.com.ti⟩, ?_⟩
  · obtain ⟨x, hx, hxs⟩ := I.com.wk j h1 h2
    exact ⟨x, hx, hxs.keeps fun T _ => hk T⟩
  · have hlo : lo ≤ j := Nat.le_of_not_lt fun hlt => by
      have h0 := I.com.old j hlt
      rcases Nat.eq_zero_or_pos j with rfl | hp
      · rw [I.perm] at hjr; cases hjr
      · obtain ⟨x, _, hxs⟩ := I.com.wk j hp hj
        rw [h0, hjr] at hxs
        cases hxs
    exact I.com.stab j hlo hj T w _ (I.com.post j T r hj hjr) (hk T)
  · have hg := I.grp
    cases σ with
    | wrk => exact hg.elim
    | idle => exact hg
    | grp gr =>
      obtain ⟨h1, h2, h3, st, sm, h4, h5⟩ := hg
      exact ⟨h1, h2, h3, st, sm, h4.at d, h5⟩
/-- Somebody runs. -/
theorem IV.someone (I : IV P Fin gs w t σ n R g Wg sh lo D S F ps b) : ∃ (i : Nat) (x : Goroutine), gs[i]? = some x ∧ x.status = .running := by
  cases b with
  | false => exact ⟨0, _, I.main, I.running⟩
  | true =>
    have key : ∀ i, i < gs.size → 2 ≤ S i → ∃ (i : Nat) (x : Goroutine), gs[i]? = some x ∧ x.status = .running := by
      intro i hi h2
      have hi0 : 0 < i := Nat.pos_of_ne_zero fun e => by
        subst e
        have := I.com.old 0 (by have := I.com.lom; omega)
        omega
      obtain ⟨x, hx, hxs⟩ := I.com.wk i hi0 hi
      exact ⟨i, x, hx, hxs.status.elim id fun h => by omega⟩
    have hg := I.grp
    cases σ with
    | wrk => exact hg.elim
    | idle => obtain ⟨_, h⟩ := hg; cases h
    | grp gr =>
      obtain ⟨_, _, _, st, sm, _, hmode⟩ := hg
      generalize hgs : gr.sub = s at hmode
      cases hmode with
      | reg h1 h2 h3 =>
        obtain ⟨i, hi, h5⟩ := vc_some h2
        exact key i hi (by omega)
      | last L h1 h2 h3 h4 => exact key L h2 (by omega)
theorem IV.awake (I : IV P Fin gs w t σ n R g Wg sh lo D S F ps b) : ∀ x ∈ gs, awake x := by
  intro x hx
  obtain ⟨i, hi, rfl⟩ := Array.mem_iff_getElem.1 hx
  rcases Nat.eq_zero_or_pos i with rfl | hp
  · have : gs[0] = mainB b g := by have := I.main; rw [Array.getElem?_eq_getElem hi] at this; exact Option.some.inj this
    rw [this]
    exact mainB_awake fun _ => I.running
  · obtain ⟨x, hx, hxs⟩ := I.com.wk i hp hi
    rw [Array.getElem?_eq_getElem hi] at hx
    rw [Option.some.inj hx]
    exact awake_of (hxs.status.elim .inl fun h => .inr (.inr h.1))

theorem inv_step (μ : Nat × Nat) (m : Machine) (t : Trace) (h : Inv P Fin μ m t) :
    (∃ o w ops, stepT P m = (.ended o w, ops) ∧ Good P Fin m o w (t ++ ops)) ∨ (∃ m' ops μ', stepT P m = (.next m', ops) ∧ Lt2 μ' μ ∧ Inv P Fin μ' m' (t ++ ops)) := by
  obtain ⟨gs, w, sl, σ, n, R, g, Wg, sh, lo, D, S, F, ps, b, rfl, I, rfl⟩ := h
  obtain ⟨i, x, d, sl', hx, hr, hst⟩ := crowd_pick (P := P) (w := w) (sl := sl) I.awake I.someone
  have I' := I.at d
  have hi : i < gs.size := (Array.getElem?_eq_some_iff.1 hx).1
  rcases Nat.eq_zero_or_pos i with rfl | hp
  · cases b with
    | true =>
      rw [I.main] at hx
      cases hx
      cases hr
    | false =>
      rcases step0 (sl := sl') n I' with ⟨o, w₁, ops, h1, h2⟩ | ⟨m₁, ops, μ', h1, h2, h3⟩
      · exact .inl ⟨o, w₁, ops, hst.trans h1, h2 w sl⟩
      · exact .inr ⟨m₁, ops, μ', hst.trans h1, h2, h3⟩
  · obtain ⟨m₁, ops, μ', h1, h2, h3⟩ := I'.stepW (sl := sl') hp hi hx hr
    exact .inr ⟨m₁, ops, μ', hst.trans h1, h2, h3⟩
/-- THE RUN ENDS, IN 'Good', on whatever tape. -/
theorem machine_ends {W : World} (hj : JM P Fin .idle n R g W) (hl : Low R W) (hd : R.deaf = 0) :
    ∃ N last o w' t', runNT P (N + 1) (solo g W) #[] = (.ended o w', t') ∧ runN P N (solo g W) = .next last ∧ step P last = .ended o w' ∧ Good P Fin last o w' t' := by
  refine run_of_inv (Prod.lex ⟨(· < ·), Nat.lt_wfRel.wf⟩ ⟨(· < ·), Nat.lt_wfRel.wf⟩).wf (Inv P Fin) (Good P Fin) inv_step (meas n false 1 (fun _ => 0)) _ _ ?_
  have h0 : ∀ {i : Nat} {a : Touch}, touchAt #[] i = some a → False := fun h => by simp [touchAt, Trace.act?] at h
  refine ⟨#[g], W, none, .idle, n, R, g, 0, fun _ => False, 1, fun _ => .work R, fun _ => 0, fun _ => 0, fun _ => ⟨fun _ _ => True⟩, false, rfl, ⟨rfl, fun h => (by cases h), hj, rfl, hd.symm ▸ rfl, ⟨by simp, fun i h1 h2 => ?_, fun _ _ => rfl, fun i h1 h2 => ?_, fun i T r hi h => (by cases h), fun i h1 h2 => ?_, fun _ _ => rfl, ?_, ?_⟩, ⟨rfl, rfl⟩⟩, rfl⟩
  · simp at h2; omega
  · simp at h2; omega
  · simp at h2; omega
  · refine ⟨fun k T hk hT => ?_, fun j k T U hjk hj hk _ _ => ?_, fun k T hk hT b o hr hb => hb.elim, fun b hb => hb.elim⟩
    · cases hT; exact hl
    · simp at hj hk; omega
  · refine ⟨fun said => ?_, fun op hop => (by simp at hop), fun i a ha => (h0 ha).elim, fun k T hk hT i a ha => (h0 ha).elim, fun k T hk hT i a ha => (h0 ha).elim, fun i a ha => (h0 ha).elim, fun i a ha => (h0 ha).elim, fun k T r hk h => (by cases h), fun a i h => (by simp [Trace.act?] at h), fun i k hi => (by simp [Trace.g?] at hi), ⟨R, rfl⟩⟩
    rintro ⟨i, j, _, ⟨a, b, ha, _⟩, _⟩
    simp [Trace.act?] at ha
end
end Go.AM
/-
  A GROUP IS BEGUN: the memory ('groupA') against the leave.
-/
set_option linter.unusedVariables false
set_option linter.unusedSimpArgs false
namespace Go.AM
open Go Go.Conc

section
variable {P : Program} {E : Perm} {w₀ : World} {ρ : Ren} {m m₀ : Mem} {w : World} {wa d o : Nat} {p : Pl}
/-- Sim hangs on neither floor, nor the opened places, nor the group, nor what is pending. -/
theorem Sim.fields (h : Sim ρ m w) (fl : Nat) (op : List Span) (wg : Option Nat) (pn : List Snap) : Sim ρ { m with floor := fl, opn := op, wg := wg, pend := pn } w :=
  ⟨h.dom, h.cells, h.vals, h.thaw, h.maps, h.iters, h.sep, h.inw, h.vars⟩
theorem lentA_lendOk {l : List Span} (h : l.all (fun s => lendOk m s && s.1 != wa) = true) : ∀ s ∈ l, s.2.1 = s.1 + 1 ∧ m.base ≤ s.1 ∧ m.floor ≤ s.1 ∧ s.1 < m.next ∧ (m.blk s.1).kind = 1 ∧ s.1 ≠ wa := by
  intro s hs
  rw [List.all_eq_true] at h
  have := h s hs
  simp only [lendOk, Bool.and_eq_true, decide_eq_true_eq, beq_iff_eq, bne_iff_ne] at this
  obtain ⟨⟨⟨⟨⟨⟨h1, h2⟩, h3⟩, h4⟩, h5⟩, _⟩, h6⟩ := this
  exact ⟨h1, h2, h3, h4, h5, h6⟩
theorem covers_inv {l : List Span} {b o : Nat} (h : covers l b o = true) : ∃ s ∈ l, s.1 ≤ b ∧ b < s.2.1 ∧ (s.2.2 = none ∨ s.2.2 = some o) := by
  unfold covers at h
  rw [List.any_eq_true] at h
  obtain ⟨s, hs, h⟩ := h
  simp only [Bool.and_eq_true, decide_eq_true_eq] at h
  refine ⟨s, hs, h.1.1, h.1.2, ?_⟩
  have h2 := h.2
  split at h2
  · rename_i e; exact .inl e
  · rename_i y e; exact .inr (by rw [e]; simpa using h2)
/-- What groupA asks, and gives. -/
theorem groupA_new (hg : m.wg = none) (h : groupA wa d o m = some m₀) : ∃ l, m₀ = { m.setBlk wa {} with wg := some wa, opn := l, floor := m.next } ∧ lentAll m d o 4 = some l ∧ m.loads wa 0 2 = some [.int .u64 0, .int .u32 0] ∧ m.mayWrite wa 0 2 = true ∧ m.ownsAll wa = true ∧
    (m.blk wa).pos = 1 ∧ (m.blk wa).cs.length = 2 ∧ m.hid = [] ∧ m.opn = [] ∧ m.pend = [] ∧ m.floor = m.base ∧ l.all (fun s => lendOk m s && s.1 != wa) = true ∧ apartS l = true := by
  unfold groupA at h
  rw [hg] at h
  simp only [] at h
  split at h
  · rename_i l hl hla
    split at h
    · rename_i hc
      simp only [Option.some.injEq] at h
      simp only [Bool.and_eq_true, decide_eq_true_eq, beq_iff_eq] at hc
      obtain ⟨⟨⟨⟨⟨⟨⟨⟨⟨c1, c2⟩, c3⟩, c4⟩, c5⟩, c6⟩, c7⟩, c8⟩, c9⟩, c10⟩ := hc
      exact ⟨l, h.symm, hla, hl, c1, c2, c3, c4, c5, c6, c7, c8, c9, c10⟩
    · cases h
  · cases h
theorem group_begin (H : Hold P E w₀ .idle ρ m w) (h : groupA wa d o m = some m₀) (hp : ρ wa = some p) :
    p.d = 0 ∧ Hold P E w₀ (.grp ⟨p.c, [], .opn 0⟩) ρ m₀ w ∧ SubP ((permOf ρ m₀).or E) ((permOf ρ m).or E) ∧ (∀ b o, ((permOf ρ m₀).or E).wr b o → ((permOf ρ m₀).or E).rd b o) ∧ m₀.deaf = m.deaf ∧
      ((permOf ρ m).or E).wr p.c 0 ∧ ((permOf ρ m).or E).wr p.c 1 ∧ WgC p.c w 0 0 ∧ ∀ x, x ≤ 1 → ¬ ((permOf ρ m₀).or E).rd p.c x := by
  obtain ⟨hgw, hgp, hgh⟩ : m.wg = none ∧ m.pend = [] ∧ m.home ≤ m.next := H.grp
  obtain ⟨l, rfl, hla, hl, c1, c2, c3, c4, c5, c6, c7, c8, c9, c10⟩ := groupA_new hgw h
  have hs := H.sim
  have hk : (m.blk wa).kind = 1 := (Mem.loads_spec hl).1
  have hd : p.d = 0 := hs.vars wa p hp hk c3
  obtain ⟨_, hroom, _⟩ := hs.cells wa p hp hk
  have hcell : ∀ i, i < 2 → ∃ v, [Value.int .u64 0, Value.int .u32 0][i]? = some v ∧ m.cell wa i = some v := fun i hi => by
    obtain ⟨v, h1, h2⟩ := (Mem.loads_spec hl).2.2 i hi
    exact ⟨v, h1, by simpa using h2⟩
  have hbase := Mem.mayWrite_base c1
  have hwr : ∀ i, i < 2 → (permOf ρ m).wr p.c i := fun i hi => by
    obtain ⟨v, _, hc⟩ := hcell i hi
    have h1 := (Mem.mayWrite_spec c1 hi).2
    have := wr_of_okW (ρ := ρ) (m := m) hp (o := i) (by omega) ⟨Mem.okR_of_cell hc, by simpa using h1⟩
    rw [hd] at this
    simpa using this
  have hnx : wa < m.next := hs.dom wa p hp
  -- the group's block is gone; the others are as they were
  have hblk : ∀ b, ({ m.setBlk wa {} with wg := some wa, opn := l, floor := m.next } : Mem).blk b = if wa = b then { stamp := m.tick } else m.blk b := fun b => Mem.blk_setBlk ..
  have hR : ∀ b x, ({ m.setBlk wa {} with wg := some wa, opn := l, floor := m.next } : Mem).okR b x → b ≠ wa ∧ m.okR b x := by
    intro b x hr
    obtain ⟨h1, h2, h3⟩ := hr
    rw [hblk] at h1 h3
    by_cases e : wa = b
    · rw [if_pos e] at h1; cases h1
    · rw [if_neg e] at h1 h3
      exact ⟨fun x => e x.symm, h1, h2, h3⟩
  have hW : ∀ b x, ({ m.setBlk wa {} with wg := some wa, opn := l, floor := m.next } : Mem).okW b x → m.okW b x := by
    intro b x hw
    obtain ⟨h1, h2⟩ := hw
    have h3 := (hR b x h1).2
    refine ⟨h3, .inl ?_⟩
    rcases h2 with h2 | h2
    · exact absurd h3.1 (by rw [H.wf.far b h2]; simp)
    · obtain ⟨s, hs', g1, g2, _⟩ := covers_inv h2
      obtain ⟨e1, _, e3, _⟩ := lentA_lendOk c9 s hs'
      omega
  have hrd : ∀ b x, (permOf ρ { m.setBlk wa {} with wg := some wa, opn := l, floor := m.next }).rd b x → (permOf ρ m).rd b x := fun b x ⟨b', p', g1, g2, g3, g4, g5⟩ => ⟨b', p', g1, g2, g3, g4, (hR _ _ g5).2⟩
  have hwrS : ∀ b x, (permOf ρ { m.setBlk wa {} with wg := some wa, opn := l, floor := m.next }).wr b x → (permOf ρ m).wr b x := fun b x ⟨b', p', g1, g2, g3, g4, g5⟩ => ⟨b', p', g1, g2, g3, g4, hW _ _ g5⟩
  have hob : ∀ b, (permOf ρ { m.setBlk wa {} with wg := some wa, opn := l, floor := m.next }).ob b → (permOf ρ m).ob b := by
    rintro b ⟨b', p', g1, g2, g3, g4⟩
    rw [hblk] at g3
    by_cases e : wa = b'
    · rw [if_pos e] at g3; rcases g3 with g3 | g3 <;> cases g3
    · rw [if_neg e] at g3; exact ⟨b', p', g1, g2, g3, g4⟩
  have hsim : Sim ρ ({ m.setBlk wa {} with wg := some wa, opn := l, floor := m.next } : Mem) w := (hs.kill wa).fields m.next l (some wa) m.pend
  have hwc : WgC p.c w 0 0 := by
    have hv : ∀ i, i < 2 → ∀ u, m.cell wa i = some u → (∀ u', VRel ρ u u' → u' = u) → w.cell? ⟨p.c, i, none⟩ = some u := by
      intro i hi u hu hsame
      obtain ⟨v', g1, g2⟩ := hs.vals wa p i u hp hu
      rw [hd, Nat.zero_add] at g1
      rw [g1, hsame v' g2]
    refine ⟨hv 0 (by omega) _ ?_ fun u' hu => (vrel_same (by rfl)).1 hu, hv 1 (by omega) _ ?_ fun u' hu => (vrel_same (by rfl)).1 hu, fun x hx => ?_⟩
    · obtain ⟨v, g1, g2⟩ := hcell 0 (by omega)
      simp only [List.getElem?_cons_zero, Option.some.injEq] at g1
      subst g1; exact g2
    · obtain ⟨v, g1, g2⟩ := hcell 1 (by omega)
      simp only [List.getElem?_cons_succ, List.getElem?_cons_zero, Option.some.injEq] at g1
      subst g1; exact g2
    · have := hs.thaw wa p x hp (by omega) hk hbase
      rw [hd, Nat.zero_add] at this
      exact this
  have hno : ∀ x, x ≤ 1 → ¬ ((permOf ρ { m.setBlk wa {} with wg := some wa, opn := l, floor := m.next }).or E).rd p.c x := by
    intro x hx hr
    rcases hr with ⟨b', p', g1, g2, g3, g4, g5⟩ | hr
    · obtain ⟨hne, hok⟩ := hR _ _ g5
      obtain ⟨_, _, h3⟩ := hs.sep b' wa p' p hne g1 hp (by rw [hok.1]; simp) (by rw [hk]; simp) g2
      omega
    · exact (H.apart.cell p.c x hr).2 (hwr x (by omega))
  refine ⟨hd, ⟨hsim, H.rest, ⟨fun b x he => ⟨(H.apart.cell b x he).1, fun hw => (H.apart.cell b x he).2 (hwrS b x hw)⟩, fun b he => ⟨(H.apart.obj b he).1, fun hw => (H.apart.obj b he).2.1 (hob b hw), (H.apart.obj b he).2.2⟩, H.apart.wf⟩, H.glob, ?_, ?_, fun b q x g1 gb g3 g4 g5 => H.apc b q x g1 gb g3 g4 (hR _ _ g5).2, fun b x he hr => H.ew b x he (hrd b x hr)⟩,
    ⟨fun b x hr => hr.imp (hrd b x) id, fun b x hw => hw.imp (hwrS b x) id, fun b hb => hb.imp (hob b) id⟩, fun b x hw => hw.elim (fun y => .inl (permOf_wr_rd y)) fun y => .inr (H.apart.wf b x y), rfl, .inl (hwr 0 (by omega)), .inl (hwr 1 (by omega)), hwc, hno⟩
  · refine ⟨rfl, by simp, ⟨hgh, by show m.base ≤ m.next; rw [← c8]; exact H.wf.fl⟩, wa, rfl, hnx, hnx, fun q hq => ?_, ?_⟩
    · rw [hp] at hq; cases hq; exact ⟨rfl, hd⟩
    · refine ⟨?_, fun x hx => ?_, ?_⟩
      · show Rel2 _ m.pend []
        rw [hgp]; trivial
      · have hx' : x ∈ m.hid := hx
        rw [c5] at hx'; cases hx'
      · show m.pend.Pairwise _
        rw [hgp]; exact List.Pairwise.nil
  · have hw := (FrD.own c2).2.2 H.wf
    exact ⟨hw.stamp, hw.far, hw.hid, Nat.le_refl _, hw.live⟩
end
end Go.AM
/-
  A GOROUTINE IS STARTED: the memory behind the lending against the world.
-/
set_option linter.unusedVariables false
set_option linter.unusedSimpArgs false
namespace Go.AM
open Go Go.Conc

def spawnC (m : Mem) (l rest : List Span) : Mem := { m with home := m.next, floor := m.next, opn := l, hid := rest ++ m.hid, wg := none, pend := [] }
def snapOf (m m2 : Mem) (l rest : List Span) : Snap := { lo := m.next, hi := m2.next, lent := l, hid := rest ++ m.hid, heap := m2.heap }
def spawnM (m m2 : Mem) (l rest : List Span) : Mem :=
  { m2 with home := m.home, floor := m2.next, opn := rest, wg := m.wg, hid := (m.next, m2.next, none) :: (l ++ m.hid), pend := snapOf m m2 l rest :: m.pend }
theorem covers_cons (s : Span) (l : List Span) (b o : Nat) : covers (s :: l) b o = (covers [s] b o || covers l b o) := by simp [covers]
theorem covers_append (l l' : List Span) (b o : Nat) : covers (l ++ l') b o = (covers l b o || covers l' b o) := by simp [covers, List.any_append]
theorem touches_cons (s : Span) (l : List Span) (b : Nat) : touchesBlk (s :: l) b = (touchesBlk [s] b || touchesBlk l b) := by simp [touchesBlk]
theorem touches_append (l l' : List Span) (b : Nat) : touchesBlk (l ++ l') b = (touchesBlk l b || touchesBlk l' b) := by simp [touchesBlk, List.any_append]
section
variable {P : Program} {E : Perm} {w₀ : World} {ρ : Ren} {m m2 : Mem} {w : World} {l rest : List Span} {b o : Nat} {p : Pl}
/-- What the new goroutine may have turned of what there was. -/
theorem child_kind (hf : Fr (spawnC m l rest) m2) (hb : b < m.next) :
    m2.blk b = m.blk b ∨ ((m2.blk b).kind = 0 ∧ coversAll l b = true) ∨ ((m.blk b).kind = 1 ∧ (m2.blk b).kind = 1 ∧ (m2.blk b).sz = (m.blk b).sz ∧ (m2.blk b).pos = (m.blk b).pos ∧ (m2.blk b).cs.length = (m.blk b).cs.length ∧
      ∀ o : Nat, (m2.blk b).cs[o]? ≠ (m.blk b).cs[o]? → covers l b o = true) := by
  rcases hf.blk b with e | ⟨_, h⟩
  · exact .inl e
  · rcases h with h | ⟨_, _, h, hk⟩ | ⟨h, _⟩ | ⟨_, h1, h2, h3, h4, h5, h6⟩
    · exact absurd (show m.next ≤ b from h) (by omega)
    · rcases h with h | h
      · exact absurd (show m.next ≤ b from h) (by omega)
      · exact .inr (.inl ⟨hk, h⟩)
    · exact absurd (show m.next ≤ b from h) (by omega)
    · refine .inr (.inr ⟨h1, h2, h3, h4, h5, fun o ho => ?_⟩)
      rcases (h6 o ho).2 with h | h
      · exact absurd (show m.next ≤ b from h) (by omega)
      · exact h
theorem child_cell (hf : Fr (spawnC m l rest) m2) (hb : b < m.next) (hc : covers l b o = false) :
    m2.blk b = m.blk b ∨ ((m.blk b).kind = 1 ∧ (m2.blk b).kind = 1 ∧ (m2.blk b).cs.length = (m.blk b).cs.length ∧ (m2.blk b).cs[o]? = (m.blk b).cs[o]?) := by
  rcases child_kind hf hb with e | ⟨_, h⟩ | ⟨h1, h2, _, _, h5, h6⟩
  · exact .inl e
  · rw [coversAll_covers h o] at hc; cases hc
  · refine .inr ⟨h1, h2, h5, ?_⟩
    by_cases e : (m2.blk b).cs[o]? = (m.blk b).cs[o]?
    · exact e
    · rw [h6 o e] at hc; cases hc
theorem blk_spawnM (b : Nat) : (spawnM m m2 l rest).blk b = m2.blk b := rfl
theorem hid_spawnM (h : covers (spawnM m m2 l rest).hid b o = false) : covers l b o = false ∧ covers m.hid b o = false ∧ ¬ (m.next ≤ b ∧ b < m2.next) := by
  have h : covers ((m.next, m2.next, none) :: (l ++ m.hid)) b o = false := h
  rw [covers_cons, covers_append] at h
  simp only [Bool.or_eq_false_iff] at h
  refine ⟨h.2.1, h.2.2, fun hx => ?_⟩
  rw [covers_mem (l := [((m.next, m2.next, none) : Span)]) (List.mem_singleton.2 rfl) hx.1 hx.2 (.inl rfl)] at h
  cases h.1
theorem touch_spawnM (h : (spawnM m m2 l rest).ownsObj b = true) : m.ownsObj b = true := by
  unfold Mem.ownsObj at h ⊢
  have h : (!touchesBlk ((m.next, m2.next, none) :: (l ++ m.hid)) b && decide (m.home ≤ b)) = true := h
  rw [touches_cons, touches_append] at h
  simp only [Bool.and_eq_true, Bool.not_eq_true', Bool.or_eq_false_iff] at h ⊢
  exact ⟨h.1.2.2, h.2⟩
/-- The starter's memory, the new goroutine's end already in it, hidden: the world holds it. -/
theorem sim_spawnM (hs : Sim ρ m w) (hf : Fr (spawnC m l rest) m2) : Sim ρ (spawnM m m2 l rest) w := by
  have hdom : ∀ b p, ρ b = some p → b < m.next := hs.dom
  have hn : m.next ≤ m2.next := hf.next
  have hb : m2.base = m.base := hf.base
  have k1 : ∀ b p, ρ b = some p → (m2.blk b).kind = 1 → (m.blk b).kind = 1 ∧ (m2.blk b).sz = (m.blk b).sz ∧ (m2.blk b).pos = (m.blk b).pos ∧ (m2.blk b).cs.length = (m.blk b).cs.length := by
    intro b p hp hk
    rcases child_kind hf (hdom b p hp) with e | ⟨h, _⟩ | ⟨h1, h2, h3, h4, h5, _⟩
    · rw [e] at hk ⊢; exact ⟨hk, rfl, rfl, rfl⟩
    · rw [h] at hk; cases hk
    · exact ⟨h1, h3, h4, h5⟩
  have k2 : ∀ b p, ρ b = some p → (m2.blk b).kind ≠ 0 → (m2.blk b).kind ≠ 1 → m2.blk b = m.blk b := by
    intro b p hp h0 h1
    rcases child_kind hf (hdom b p hp) with e | ⟨h, _⟩ | ⟨_, h2, _⟩
    · exact e
    · exact absurd h h0
    · exact absurd h2 h1
  refine ⟨fun b p hp => Nat.lt_of_lt_of_le (hdom b p hp) hn, fun b p hp hk => ?_, fun b p o v hp hc => ?_, fun b p o hp ho hk hbs => ?_, fun b p hp hk ho => ?_, fun b p hp hk ho => ?_, fun b b' p p' hne hp hp' hk hk' hpc => ?_, hs.inw, fun b p hp hk hpos => ?_⟩
  · obtain ⟨g1, g2, g3, g4⟩ := k1 b p hp hk
    obtain ⟨h1, h2, h3⟩ := hs.cells b p hp g1
    exact ⟨h1.trans g2.symm, by rw [blk_spawnM, g4]; exact h2, h3⟩
  · unfold Mem.cell at hc
    split at hc
    · rename_i hk
      obtain ⟨c1, c2, _⟩ := hid_spawnM hk.2
      have hk1 : (m2.blk b).kind = 1 := hk.1
      have hc : ((m2.blk b).cs[o]?).join = some v := hc
      refine hs.vals b p o v hp ?_
      unfold Mem.cell
      rcases child_cell hf (hdom b p hp) c1 with e | ⟨g1, _, _, g4⟩
      · rw [e] at hc hk1; rw [if_pos ⟨hk1, c2⟩]; exact hc
      · rw [if_pos ⟨g1, c2⟩, ← g4]; exact hc
    · cases hc
  · exact hs.thaw b p o hp ho (k1 b p hp hk).1 (by rw [← hb]; exact hbs)
  · have e := k2 b p hp (by rw [show (m2.blk b).kind = 2 from hk]; simp) (by rw [show (m2.blk b).kind = 2 from hk]; simp)
    have hk' : (m2.blk b).kind = 2 := hk
    rw [blk_spawnM, e]
    rw [e] at hk'
    exact hs.maps b p hp hk' (touch_spawnM ho)
  · have e := k2 b p hp (by rw [show (m2.blk b).kind = 3 from hk]; simp) (by rw [show (m2.blk b).kind = 3 from hk]; simp)
    have hk' : (m2.blk b).kind = 3 := hk
    rw [blk_spawnM, e]
    rw [e] at hk'
    exact hs.iters b p hp hk' (touch_spawnM ho)
  · have kk : ∀ b p, ρ b = some p → (m2.blk b).kind ≠ 0 → (m2.blk b).kind = (m.blk b).kind := by
      intro b p hp h0
      by_cases h1 : (m2.blk b).kind = 1
      · rw [h1, (k1 b p hp h1).1]
      · rw [k2 b p hp h0 h1]
    have e1 := kk b p hp hk
    have e2 := kk b' p' hp' hk'
    obtain ⟨h1, h2, h3⟩ := hs.sep b b' p p' hne hp hp' (by rw [← e1]; exact hk) (by rw [← e2]; exact hk') hpc
    exact ⟨e1.trans h1, e2.trans h2, h3⟩
  · obtain ⟨g1, _, g3, _⟩ := k1 b p hp hk
    exact hs.vars b p hp g1 (g3.symm.trans hpos)
/-- The new goroutine's memory. -/
theorem sim_spawnC (hs : Sim ρ m w) (hfar : ∀ b, m.next ≤ b → (m.blk b).kind = 0) : Sim ρ (spawnC m l rest) w := by
  have ho : ∀ b, (spawnC m l rest).ownsObj b = true → m.next ≤ b := by
    intro b h
    unfold Mem.ownsObj at h
    simp only [Bool.and_eq_true, decide_eq_true_eq] at h
    exact h.2
  refine ⟨hs.dom, hs.cells, fun b p o v hp hc => ?_, hs.thaw, fun b p hp hk hb => ?_, fun b p hp hk hb => ?_, hs.sep, hs.inw, hs.vars⟩
  · unfold Mem.cell at hc
    split at hc
    · rename_i hk
      have h2 : covers (rest ++ m.hid) b o = false := hk.2
      rw [covers_append] at h2
      simp only [Bool.or_eq_false_iff] at h2
      refine hs.vals b p o v hp ?_
      unfold Mem.cell
      rw [if_pos ⟨hk.1, h2.2⟩]
      exact hc
    · cases hc
  · exact absurd (ho b hb) (by have := hs.dom b p hp; omega)
  · exact absurd (ho b hb) (by have := hs.dom b p hp; omega)
end
end Go.AM
/-
  A GOROUTINE IS STARTED, on: the leaves lie apart; the starter's account and the new goroutine's.
-/
set_option linter.unusedVariables false
set_option linter.unusedSimpArgs false
namespace Go.AM
open Go Go.Conc

def noP : Perm := ⟨fun _ _ => False, fun _ _ => False, fun _ => False, 0⟩
theorem covers_mono {l l' : List Span} (h : ∀ s ∈ l, s ∈ l') {b o : Nat} (hc : covers l b o = true) : covers l' b o = true := by
  obtain ⟨s, hs, h1, h2, h3⟩ := covers_inv hc
  exact covers_mem (h s hs) h1 h2 h3
/-- What is lent, as spawnA has asked. -/
structure Lent (m : Mem) (l rest : List Span) : Prop where
  sub : ∀ s ∈ l, s ∈ m.opn
  rsub : ∀ s ∈ rest, s ∈ m.opn
  below : ∀ s, s ∈ rest ∨ s ∈ l → s.2.1 ≤ m.next
  one : ∀ s ∈ l, s.2.1 = s.1 + 1 ∧ (m.blk s.1).kind = 1
  cell : ∀ s ∈ l, ∀ o, s.2.2 = some o → coversAll l s.1 = false
  ap : ∀ b o, covers l b o = true → covers (rest ++ m.hid) b o = false

section
variable {P : Program} {E : Perm} {w₀ : World} {ρ : Ren} {m m2 : Mem} {w : World} {l rest : List Span} {b x : Nat} {p : Pl} {gr : GS}
theorem okR_C (h : (spawnC m l rest).okR b x) : m.okR b x ∧ covers rest b x = false := by
  obtain ⟨h1, h2, h3⟩ := h
  have h2 : covers (rest ++ m.hid) b x = false := h2
  rw [covers_append] at h2
  simp only [Bool.or_eq_false_iff] at h2
  exact ⟨⟨h1, h2.2, h3⟩, h2.1⟩
theorem okW_C (hl : Lent m l rest) (hb : b < m.next) (h : (spawnC m l rest).okW b x) : m.okW b x ∧ covers l b x = true ∧ covers rest b x = false := by
  obtain ⟨h1, h2⟩ := h
  obtain ⟨g1, g2⟩ := okR_C h1
  have h3 : covers l b x = true := h2.resolve_left fun h => absurd (show m.next ≤ b from h) (by omega)
  exact ⟨⟨g1, .inr (covers_mono hl.sub h3)⟩, h3, g2⟩
theorem okR_M (hf : Fr (spawnC m l rest) m2) (hb : b < m.next) (h : (spawnM m m2 l rest).okR b x) : m.okR b x ∧ covers l b x = false := by
  obtain ⟨h1, h2, h3⟩ := h
  obtain ⟨c1, c2, _⟩ := hid_spawnM h2
  refine ⟨?_, c1⟩
  have h1 : (m2.blk b).kind = 1 := h1
  have h3 : x < (m2.blk b).cs.length → ∃ v, (m2.blk b).cs[x]? = some (some v) := h3
  rcases child_cell (o := x) hf hb c1 with e | ⟨g1, _, g3, g4⟩
  · rw [e] at h1 h3; exact ⟨h1, c2, h3⟩
  · rw [g3, g4] at h3; exact ⟨g1, c2, h3⟩
theorem okW_M (hl : Lent m l rest) (hf : Fr (spawnC m l rest) m2) (hb : b < m.next) (h : (spawnM m m2 l rest).okW b x) : m.okW b x ∧ covers rest b x = true := by
  obtain ⟨h1, h2⟩ := h
  have hn : m.next ≤ m2.next := hf.next
  have h3 : covers rest b x = true := h2.resolve_left fun h => absurd (show m2.next ≤ b from h) (by omega)
  exact ⟨⟨(okR_M hf hb h1).1, .inr (covers_mono hl.rsub h3)⟩, h3⟩
theorem sub_C (hs : Sim ρ m w) (hl : Lent m l rest) : SubP (permOf ρ (spawnC m l rest)) (permOf ρ m) := by
  refine ⟨?_, ?_, ?_⟩
  · rintro b o ⟨b', p', g1, g2, g3, g4, g5⟩; exact ⟨b', p', g1, g2, g3, g4, (okR_C g5).1⟩
  · rintro b o ⟨b', p', g1, g2, g3, g4, g5⟩; exact ⟨b', p', g1, g2, g3, g4, (okW_C hl (hs.dom _ _ g1) g5).1⟩
  · rintro b ⟨b', p', g1, g2, g3, g4⟩
    unfold Mem.ownsObj at g4
    simp only [Bool.and_eq_true, decide_eq_true_eq] at g4
    exact absurd (show m.next ≤ b' from g4.2) (by have := hs.dom _ _ g1; omega)
theorem noob_C (hs : Sim ρ m w) (b : Nat) : ¬ (permOf ρ (spawnC m l rest)).ob b := by
  rintro ⟨b', p', g1, g2, g3, g4⟩
  unfold Mem.ownsObj at g4
  simp only [Bool.and_eq_true, decide_eq_true_eq] at g4
  exact absurd (show m.next ≤ b' from g4.2) (by have := hs.dom _ _ g1; omega)
theorem sub_M (hs : Sim ρ m w) (hl : Lent m l rest) (hf : Fr (spawnC m l rest) m2) : SubP (permOf ρ (spawnM m m2 l rest)) (permOf ρ m) := by
  refine ⟨?_, ?_, ?_⟩
  · rintro b o ⟨b', p', g1, g2, g3, g4, g5⟩; exact ⟨b', p', g1, g2, g3, g4, (okR_M hf (hs.dom _ _ g1) g5).1⟩
  · rintro b o ⟨b', p', g1, g2, g3, g4, g5⟩; exact ⟨b', p', g1, g2, g3, g4, (okW_M hl hf (hs.dom _ _ g1) g5).1⟩
  · rintro b ⟨b', p', g1, g2, g3, g4⟩
    refine ⟨b', p', g1, g2, ?_, touch_spawnM g4⟩
    have g3 : (m2.blk b').kind = 2 ∨ (m2.blk b').kind = 3 := g3
    rcases child_kind hf (hs.dom _ _ g1) with e | ⟨h, _⟩ | ⟨_, h2, _⟩
    · rw [← e]; exact g3
    · omega
    · omega
/-- Two places that meet are one. -/
theorem same_place (hs : Sim ρ m w) {b b' c y : Nat} {p p' : Pl} (h1 : ρ b = some p) (h2 : ρ b' = some p') (e1 : p.c = c) (e2 : p'.c = c) (r1 : p.d ≤ y) (r2 : y < p.d + p.room) (r3 : p'.d ≤ y) (r4 : y < p'.d + p'.room) (k1 : (m.blk b).kind = 1) (k2 : (m.blk b').kind = 1) : b = b' := by
  by_cases e : b = b'
  · exact e
  · obtain ⟨_, _, h⟩ := hs.sep b b' p p' e h1 h2 (by rw [k1]; simp) (by rw [k2]; simp) (e1.trans e2.symm)
    omega
theorem dis_MC (hE : ∀ b o, E.wr b o → ¬ (permOf ρ m).rd b o) (hs : Sim ρ m w) (hl : Lent m l rest) (hf : Fr (spawnC m l rest) m2) : Dis ((permOf ρ (spawnM m m2 l rest)).or E) ((permOf ρ (spawnC m l rest)).or noP) := by
  refine ⟨?_, fun b _ h => h.elim (noob_C hs b) id⟩
  rintro c y (⟨b, p, g1, g2, g3, g4, g5⟩ | hx) (⟨b', p', f1, f2, f3, f4, f5⟩ | h)
  · obtain ⟨a1, a2⟩ := okW_M hl hf (hs.dom _ _ g1) g5
    obtain ⟨c1, c2⟩ := okR_C f5
    have e := same_place hs g1 f1 g2 f2 g3 g4 f3 f4 a1.1.1 c1.1
    subst e
    rw [g1] at f1; cases f1
    rw [c2] at a2; cases a2
  · exact h
  · exact hE _ _ hx ((sub_C hs hl).rd c y ⟨b', p', f1, f2, f3, f4, f5⟩)
  · exact h
theorem dis_CM (H : Hold P E w₀ (.grp gr) ρ m w) (hl : Lent m l rest) (hf : Fr (spawnC m l rest) m2) : Dis ((permOf ρ (spawnC m l rest)).or noP) ((permOf ρ (spawnM m m2 l rest)).or E) := by
  have hs := H.sim
  refine ⟨?_, fun b h _ => h.elim (noob_C hs b) id⟩
  rintro c y (⟨b, p, g1, g2, g3, g4, g5⟩ | hx) (⟨b', p', f1, f2, f3, f4, f5⟩ | h)
  · obtain ⟨a1, a2, _⟩ := okW_C hl (hs.dom _ _ g1) g5
    obtain ⟨c1, c2⟩ := okR_M hf (hs.dom _ _ f1) f5
    have e := same_place hs g1 f1 g2 f2 g3 g4 f3 f4 a1.1.1 c1.1
    subst e
    rw [g1] at f1; cases f1
    rw [c2] at a2; cases a2
  · exact (H.apart.cell c y h).2 ((sub_C hs hl).wr c y ⟨b, p, g1, g2, g3, g4, g5⟩)
  · exact hx
  · exact hx
theorem wf_C (hw : Wf m) (hl : Lent m l rest) : Wf (spawnC m l rest) :=
  ⟨hw.stamp, hw.far, fun s hs => by
    have hs : s ∈ rest ++ m.hid := hs
    rcases List.mem_append.1 hs with h | h
    · exact hl.below s (.inl h)
    · exact hw.hid s h, Nat.le_refl _, hw.live⟩
theorem hold_C (H : Hold P E w₀ (.grp gr) ρ m w) (hl : Lent m l rest) : Hold P noP w .wrk ρ (spawnC m l rest) w :=
  ⟨sim_spawnC H.sim H.wf.far, Keeps.refl _ _, ⟨fun _ _ h => h.elim, fun _ h => h.elim, fun _ _ h => h⟩, H.glob, trivial, wf_C H.wf hl, fun _ _ _ _ _ _ _ _ h => h, fun _ _ h => h.elim⟩
theorem stable_post (s : Snap) (ρs : Ren) : Stable (postOf s ρs) := by
  rintro R w w₁ ⟨ρk, mk, h1, h2, h3, h4, h5, h6⟩ hk
  exact ⟨ρk, mk, h1, h2, h3.keeps (hk.sub h4 h5), h4, h5, h6⟩
theorem hold_M (H : Hold P E w₀ (.grp gr) ρ m w) (hl : Lent m l rest) (hf : FrW (spawnC m l rest) m2) (h4 : m.pend.length < 4) :
    Hold P E w₀ (.grp ⟨gr.Wg, postOf (snapOf m m2 l rest) ρ :: gr.posts, .opn (gr.posts.length + 1)⟩) ρ (spawnM m m2 l rest) w := by
  have hs := H.sim
  have hw2 := hf.2 (wf_C H.wf hl)
  have hn : m.next ≤ m2.next := hf.1.next
  have hsub := sub_M hs hl hf.1
  obtain ⟨g1, g2, g0, wa, k1, k2, k3, k4, k5, k6, k7⟩ := H.grp
  refine ⟨sim_spawnM hs hf.1, H.rest, ⟨fun b o he => ⟨(H.apart.cell b o he).1, fun hw => (H.apart.cell b o he).2 (hsub.wr b o hw)⟩, fun b he => ⟨(H.apart.obj b he).1, fun hw => (H.apart.obj b he).2.1 (hsub.ob b hw), (H.apart.obj b he).2.2⟩, H.apart.wf⟩, H.glob, ?_, ?_, fun b q y p1 pb p3 p4 p5 => H.apc b q y p1 (by rw [← show m2.base = m.base from hf.1.base]; exact pb) p3 p4 (okR_M hf.1 (hs.dom _ _ p1) p5).1, fun b o he hr => H.ew b o he (hsub.rd b o hr)⟩
  · refine ⟨rfl, ?_, ⟨Nat.le_trans g0.1 hn, by show m2.base ≤ m2.next; rw [hf.1.base]; exact Nat.le_trans g0.2 hn⟩, wa, k1, Nat.lt_of_lt_of_le k2 hn, Nat.lt_of_lt_of_le k2 hn, k4, ⟨?_, ?_⟩, fun y hy => ?_, ?_⟩
    · show gr.posts.length + 1 ≤ 4
      rw [← k5.length]; omega
    · refine ⟨⟨ρ, rfl, fun _ _ => rfl⟩, fun b h1 h2 => ?_, hn, Nat.le_refl _, Nat.le_refl _, fun y hy b h1 h2 => ?_, fun y hy => ?_, fun y hy => ?_, fun y hy => ?_, hl.ap, fun y hy b h1 h2 => ?_, fun b => hw2.live b, fun b _ _ => rfl, g0.1⟩
      · cases hb : ρ b with
        | none => rfl
        | some p => have := hs.dom b p hb; have h1 : m.next ≤ b := h1; omega
      · split
        · exact ⟨rfl, rfl, rfl, rfl, fun _ => ⟨rfl, rfl, rfl⟩⟩
        · rename_i o ho
          have hk : (m2.blk b).kind = 1 := by
            rcases hy with rfl | hy
            · cases ho
            · obtain ⟨e1, e2⟩ := hl.one y hy
              have e3 := hl.cell y hy o ho
              have eb : b = y.1 := by omega
              subst eb
              rcases child_kind (b := y.1) hf.1 (by have := hl.below y (.inr hy); omega) with e | ⟨_, h⟩ | ⟨_, h, _⟩
              · rw [e]; exact e2
              · rw [h] at e3; cases e3
              · exact h
          exact ⟨hk, hk, rfl, rfl, rfl, rfl⟩
      · show y ∈ (m.next, m2.next, none) :: (l ++ m.hid)
        rcases hy with rfl | hy
        · exact List.mem_cons_self ..
        · exact List.mem_cons_of_mem _ (List.mem_append_left _ hy)
      · show y.2.1 ≤ m2.next
        rcases hy with rfl | hy
        · exact Nat.le_refl _
        · exact Nat.le_trans (hl.below y (.inr hy)) hn
      · show y.2.1 ≤ m.next
        rcases hy with hy | hy
        · rcases List.mem_append.1 (show y ∈ rest ++ m.hid from hy) with h | h
          · exact hl.below y (.inl h)
          · exact H.wf.hid y h
        · exact hl.below y (.inr hy)
      · have hy : y ∈ l := hy
        obtain ⟨e1, e2⟩ := hl.one y hy
        have eb : b = y.1 := by omega
        subst eb
        show (m2.blk y.1).kind ≤ 1
        rcases child_kind (b := y.1) hf.1 (by have := hl.below y (.inr hy); omega) with e | ⟨h, _⟩ | ⟨_, h, _⟩
        · rw [e]; omega
        · omega
        · omega
    · refine k5.mono fun s q hsq => ?_
      refine ⟨hsq.post, hsq.none, hsq.lo, Nat.le_trans hsq.next hn, Nat.le_trans hsq.next hn, fun y hy => ?_, fun y hy => ?_, fun y hy => Nat.le_trans (hsq.below y hy) hn, hsq.lb, hsq.ap, hsq.lk, hsq.live, fun b hb hk => ?_, hsq.hm⟩
      · have hy' : y ∈ (spawnC m l rest).hid := List.mem_append_right _ (hsq.hid y hy)
        exact spanSame_fr hf.1 hy' (hsq.below y hy) (hsq.same y hy)
      · exact List.mem_cons_of_mem _ (List.mem_append_right _ (hsq.hid y hy))
      · have hbn : b < m.next := by have := hsq.lo; have := hsq.next; omega
        have hk : (m2.blk b).kind ≠ 0 := hk
        show _ = (m2.blk b).kind
        rcases child_kind hf.1 hbn with e | ⟨h, _⟩ | ⟨a1, a2, _⟩
        · rw [e] at hk ⊢; exact hsq.kk b hb hk
        · exact absurd h hk
        · rw [a2, ← a1]; exact hsq.kk b hb (by rw [a1]; simp)
    · have hy : y ∈ (m.next, m2.next, none) :: (l ++ m.hid) := hy
      rcases List.mem_cons.1 hy with rfl | hy
      · exact ⟨snapOf m m2 l rest, List.mem_cons_self .., .inl rfl⟩
      · rcases List.mem_append.1 hy with hy | hy
        · exact ⟨snapOf m m2 l rest, List.mem_cons_self .., .inr hy⟩
        · obtain ⟨s, hs', h⟩ := k6 y hy
          exact ⟨s, List.mem_cons_of_mem _ hs', h⟩
    · refine List.Pairwise.cons (fun s hs' => ?_) k7
      obtain ⟨i, hi⟩ := List.mem_iff_getElem?.1 hs'
      obtain ⟨q, _, hq⟩ := k5.get hi
      exact hq.next
  · refine ⟨hw2.stamp, hw2.far, fun s hs' => ?_, Nat.le_refl _, hw2.live⟩
    have hs' : s ∈ (m.next, m2.next, none) :: (l ++ m.hid) := hs'
    rcases List.mem_cons.1 hs' with rfl | hs'
    · exact Nat.le_refl _
    · rcases List.mem_append.1 hs' with h | h
      · exact Nat.le_trans (hl.below s (.inr h)) hn
      · exact Nat.le_trans (H.wf.hid s h) hn
end
end Go.AM
/-
  WHAT spawnA ASKS gives 'Lent'.
-/
set_option linter.unusedVariables false
set_option linter.unusedSimpArgs false
namespace Go.AM
open Go Go.Conc

theorem apartS_mem : ∀ {l : List Span}, apartS l = true → ∀ s ∈ l, ∀ t ∈ l, s ≠ t → (s.1 != t.1 || (match s.2.2, t.2.2 with | some x, some y => x != y | _, _ => false)) = true ∨ (t.1 != s.1 || (match t.2.2, s.2.2 with | some x, some y => x != y | _, _ => false)) = true
  | [], _, s, hs, _, _, _ => by cases hs
  | u :: l, h, s, hs, t, ht, hne => by
    unfold apartS at h
    rw [Bool.and_eq_true, List.all_eq_true] at h
    rcases List.mem_cons.1 hs with rfl | hs' <;> rcases List.mem_cons.1 ht with rfl | ht'
    · exact absurd rfl hne
    · exact .inl (h.1 t ht')
    · exact .inr (h.1 s hs')
    · exact apartS_mem h.2 s hs' t ht' hne
theorem lent_of {m : Mem} {l : List Span} (h1 : (l.all fun s => m.opn.contains s) = true) (h2 : apartS l = true) (h3 : (l.all fun s => ((m.opn.filter fun s => !l.contains s) ++ m.hid).all (apart2 s)) = true)
    (h4 : (((m.opn.filter fun s => !l.contains s) ++ l).all fun t => Nat.ble t.2.1 m.next) = true) (h5 : (l.all fun s => Nat.beq s.2.1 (s.1 + 1) && Nat.beq (m.blk s.1).kind 1) = true) : Lent m l (m.opn.filter fun s => !l.contains s) := by
  rw [List.all_eq_true] at h1 h3 h4 h5
  have hone : ∀ s ∈ l, s.2.1 = s.1 + 1 ∧ (m.blk s.1).kind = 1 := fun s hs => by
    have := h5 s hs
    rw [Bool.and_eq_true] at this
    exact ⟨Nat.eq_of_beq_eq_true this.1, Nat.eq_of_beq_eq_true this.2⟩
  refine ⟨fun s hs => by simpa using h1 s hs, fun s hs => (List.mem_filter.1 hs).1, fun s hs => Nat.le_of_ble_eq_true (h4 s (List.mem_append.2 hs)), hone, fun s hs o ho => ?_, fun b o hc => ?_⟩
  · cases hcv : coversAll l s.1 with
    | false => rfl
    | true =>
      exfalso
      unfold coversAll at hcv
      rw [List.any_eq_true] at hcv
      obtain ⟨t, ht, hcv⟩ := hcv
      simp only [Bool.and_eq_true, decide_eq_true_eq, Option.isNone_iff_eq_none] at hcv
      have e := (hone t ht).1
      have e1 : t.1 = s.1 := by omega
      have hne : s ≠ t := fun h => by subst h; rw [ho] at hcv; cases hcv.2
      rcases apartS_mem h2 s hs t ht hne with h | h <;> simp [ho, hcv.2, e1] at h
  · cases hcv : covers ((m.opn.filter fun s => !l.contains s) ++ m.hid) b o with
    | false => rfl
    | true =>
      exfalso
      obtain ⟨s, hs, a1, a2, a3⟩ := covers_inv hc
      obtain ⟨t, ht, c1, c2, c3⟩ := covers_inv hcv
      have h := h3 s hs
      rw [List.all_eq_true] at h
      have h := h t ht
      unfold apart2 at h
      rw [Bool.or_eq_true, Bool.or_eq_true] at h
      rcases h with (h | h) | h
      · have := Nat.le_of_ble_eq_true h; omega
      · have := Nat.le_of_ble_eq_true h; omega
      · rcases a3 with a3 | a3 <;> rcases c3 with c3 | c3 <;> rw [a3, c3] at h <;> simp at h
end Go.AM
/-
  GOROUTINES ARE JOINED, one behind the other, the last that was started first: the memory behind against the world.
-/
set_option linter.unusedVariables false
set_option linter.unusedSimpArgs false
namespace Go.AM
open Go Go.Conc

def mixR (ρ ρk : Ren) (lo hi : Nat) : Ren := fun b => if lo ≤ b ∧ b < hi then ρk b else ρ b
def spansOf : List Snap → List Span
  | [] => []
  | s :: l => ((s.lo, s.hi, none) :: s.lent) ++ spansOf l
theorem spansOf_mem {l : List Snap} {x : Span} : x ∈ spansOf l ↔ ∃ s ∈ l, x = (s.lo, s.hi, none) ∨ x ∈ s.lent := by
  induction l with
  | nil => simp [spansOf]
  | cons s l ih => simp [spansOf, ih, or_assoc]
/-- The leave of one who has joined another. -/
def Perm.add (R S : Perm) : Perm := ⟨fun b o => R.rd b o ∨ S.rd b o, R.wr, fun b => R.ob b ∨ S.ob b, R.deaf⟩
/-- What is held while they are joined. -/
structure JI (E R : Perm) (ρ : Ren) (m : Mem) (w : World) (ps : List Post) : Prop where
  sim : Sim ρ m w
  wf : Wf m
  sok : Rel2 (SOk m ρ) m.pend ps
  hid : ∀ x ∈ m.hid, ∃ s ∈ m.pend, x = (s.lo, s.hi, Option.none) ∨ x ∈ s.lent
  pw : m.pend.Pairwise fun s t => t.hi ≤ s.lo
  opn : m.opn = []
  rd : ∀ b o, (permOf ρ m).rd b o → R.rd b o
  ob : ∀ b, (permOf ρ m).ob b → R.ob b
  wr : ∀ b o, (permOf ρ m).wr b o → R.wr b o
  erd : ∀ b o, E.rd b o → R.rd b o
  eob : ∀ b, E.ob b → R.ob b
  apc : ApC E ρ m
  apo : ∀ b, (permOf ρ m).ob b → ¬ E.ob b
  ewR : ∀ b o, E.wr b o → R.wr b o
  ewr : ∀ b o, E.wr b o → ¬ (permOf ρ m).rd b o
theorem not_covers {l : List Span} {b o : Nat} (h : ∀ x ∈ l, x.1 ≤ b → b < x.2.1 → (x.2.2 = none ∨ x.2.2 = some o) → False) : covers l b o = false := by
  cases hc : covers l b o with
  | false => rfl
  | true => obtain ⟨x, h1, h2, h3, h4⟩ := covers_inv hc; exact (h x h1 h2 h3 h4).elim
theorem touches_inv {l : List Span} {b : Nat} (h : touchesBlk l b = true) : ∃ s ∈ l, s.1 ≤ b ∧ b < s.2.1 := by
  unfold touchesBlk at h
  rw [List.any_eq_true] at h
  obtain ⟨s, hs, h⟩ := h
  simp only [Bool.and_eq_true, decide_eq_true_eq] at h
  exact ⟨s, hs, h⟩
theorem not_touches {l : List Span} {b : Nat} (h : ∀ x ∈ l, x.1 ≤ b → b < x.2.1 → False) : touchesBlk l b = false := by
  cases hc : touchesBlk l b with
  | false => rfl
  | true => obtain ⟨x, h1, h2, h3⟩ := touches_inv hc; exact (h x h1 h2 h3).elim
theorem cell_some {m : Mem} {b o : Nat} {v : Value} (h : m.cell b o = some v) : (m.blk b).kind = 1 ∧ covers m.hid b o = false ∧ (m.blk b).cs[o]? = some (some v) := by
  unfold Mem.cell at h
  split at h
  · rename_i hk
    refine ⟨hk.1, hk.2, ?_⟩
    cases hc : (m.blk b).cs[o]? with
    | none => rw [hc] at h; cases h
    | some y => rw [hc] at h; simp only [Option.join_some] at h; rw [h]
  · cases h
theorem cell_mk {m : Mem} {b o : Nat} {v : Value} (h1 : (m.blk b).kind = 1) (h2 : covers m.hid b o = false) (h3 : (m.blk b).cs[o]? = some (some v)) : m.cell b o = some v := by
  unfold Mem.cell
  rw [if_pos ⟨h1, h2⟩, h3]
  rfl
theorem owns_some {m : Mem} {b : Nat} (h : m.ownsObj b = true) : touchesBlk m.hid b = false ∧ m.home ≤ b := by
  unfold Mem.ownsObj at h
  simpa using h
theorem owns_mk {m : Mem} {b : Nat} (h1 : touchesBlk m.hid b = false) (h2 : m.home ≤ b) : m.ownsObj b = true := by
  unfold Mem.ownsObj
  simp [h1, h2]

section
variable {E R S : Perm} {ρ : Ren} {m : Mem} {w : World} {p : Post} {ps : List Post} {s : Snap} {tl : List Snap}
theorem join_one (H : JI E R ρ m w (p :: ps)) (hp : m.pend = s :: tl) (hok : p.ok S w) (hl : Low S w) (d1 : Dis R S) (d2 : Dis S R) :
    ∃ ρ', ρ.le ρ' ∧ (∀ b, ¬ (s.lo ≤ b ∧ b < s.hi) → ρ' b = ρ b) ∧ JI E (R.add S) ρ' { m with hid := spansOf tl, pend := tl } w ps := by
  have hsok := H.sok
  rw [hp] at hsok
  obtain ⟨hs, hrest⟩ := hsok
  have hpw := H.pw
  rw [hp] at hpw
  obtain ⟨hpw1, hpw2⟩ := List.pairwise_cons.1 hpw
  obtain ⟨ρs, rfl, hρs⟩ := hs.post
  obtain ⟨ρk, mk, he, hρk, sk, krd, kob, kwr⟩ := hok
  have hlohi := hs.lo
  have hinx := hs.next
  have hifl := hs.hi
  -- the blocks of the joined one
  have kblk : ∀ b, mk.blk b = s.heap.get b := fun b => by show mk.heap.get b = _; rw [he.heap]
  have klow : ∀ b, b < s.lo → ρk b = ρ b := fun b hb => (hρk b hb).trans (hρs b hb).symm
  have alike : ∀ b, s.lo ≤ b → b < s.hi → (m.blk b).alike (mk.blk b) := fun b h1 h2 => by rw [kblk]; exact hs.same (s.lo, s.hi, none) (.inl rfl) b h1 h2
  have khid : ∀ b, s.lo ≤ b → touchesBlk mk.hid b = false := fun b hb => not_touches fun x hx h1 h2 => by
    rw [he.hid] at hx
    have := hs.lb x (.inl hx)
    omega
  have khid' : ∀ b o, covers s.lent b o = true → covers mk.hid b o = false := fun b o h => by rw [he.hid]; exact hs.ap b o h
  have lentlow : ∀ b, touchesBlk s.lent b = true → b < s.lo := fun b h => by
    obtain ⟨x, hx, h1, h2⟩ := touches_inv h
    have := hs.lb x (.inr hx)
    omega
  have le1 : ρ.le (mixR ρ ρk s.lo s.hi) := fun b q hq => by
    unfold mixR
    split
    · rename_i h
      rw [hs.none b h.1 h.2] at hq; cases hq
    · exact hq
  have le2 : ρk.le (mixR ρ ρk s.lo s.hi) := fun b q hq => by
    unfold mixR
    split
    · exact hq
    · rename_i h
      have hd := sk.dom b q hq
      rw [he.next] at hd
      rw [← klow b (by omega)]
      exact hq
  have hin : ∀ {b q}, mixR ρ ρk s.lo s.hi b = some q → (s.lo ≤ b ∧ b < s.hi) ∧ ρk b = some q ∨ ¬ (s.lo ≤ b ∧ b < s.hi) ∧ ρ b = some q := by
    intro b q h
    unfold mixR at h
    split at h
    · rename_i hb; exact .inl ⟨hb, h⟩
    · rename_i hb; exact .inr ⟨hb, h⟩
  -- where hidden
  have hcov : ∀ b o, ¬ (s.lo ≤ b ∧ b < s.hi) → covers s.lent b o = false → covers (spansOf tl) b o = false → covers m.hid b o = false := fun b o h1 h2 h3 => not_covers fun x hx g1 g2 g3 => by
    obtain ⟨t, ht, h⟩ := H.hid x hx
    rw [hp] at ht
    rcases List.mem_cons.1 ht with rfl | ht
    · rcases h with rfl | h
      · exact h1 ⟨g1, g2⟩
      · rw [covers_mem h g1 g2 g3] at h2; cases h2
    · rw [covers_mem (spansOf_mem.2 ⟨t, ht, h⟩) g1 g2 g3] at h3; cases h3
  have htch : ∀ b, ¬ (s.lo ≤ b ∧ b < s.hi) → touchesBlk s.lent b = false → touchesBlk (spansOf tl) b = false → touchesBlk m.hid b = false := fun b h1 h2 h3 => not_touches fun x hx g1 g2 => by
    obtain ⟨t, ht, h⟩ := H.hid x hx
    rw [hp] at ht
    rcases List.mem_cons.1 ht with rfl | ht
    · rcases h with rfl | h
      · exact h1 ⟨g1, g2⟩
      · rw [touches_mem h g1 g2] at h2; cases h2
    · rw [touches_mem (spansOf_mem.2 ⟨t, ht, h⟩) g1 g2] at h3; cases h3
  have hidhi : ∀ b, s.hi ≤ b → touchesBlk m.hid b = false := fun b hb => not_touches fun x hx g1 g2 => by
    obtain ⟨t, ht, h⟩ := H.hid x hx
    rw [hp] at ht
    rcases List.mem_cons.1 ht with rfl | ht
    · rcases h with rfl | h
      · have g2 : b < t.hi := g2
        omega
      · have := hs.lb x (.inr h); omega
    · have h4 := hpw1 t ht
      obtain ⟨i, hi⟩ := List.mem_iff_getElem?.1 ht
      obtain ⟨q, _, hq⟩ := hrest.get hi
      rcases h with rfl | h
      · have g2 : b < t.hi := g2
        omega
      · have := hq.lb x (.inr h); have := hq.lo; omega
  -- a lent cell
  have lentc : ∀ b o, covers s.lent b o = true → (m.blk b).kind = 1 → (mk.blk b).kind = 1 ∧ (mk.blk b).cs[o]? = (m.blk b).cs[o]? ∧ (mk.blk b).cs.length = (m.blk b).cs.length := fun b o hc hk => by
    obtain ⟨x, hx, g1, g2, g3⟩ := covers_inv hc
    have h := hs.same x (.inr hx) b g1 g2
    rw [kblk]
    rcases g3 with g3 | g3
    · simp only [g3] at h
      obtain ⟨a1, _, _, a4, _⟩ := h
      exact ⟨by rw [← a1]; exact hk, by rw [a4], by rw [a4]⟩
    · simp only [g3] at h
      obtain ⟨a1, a2, _, _, a5, a6⟩ := h
      exact ⟨a2, a6.symm, a5.symm⟩
  have lentk : ∀ b, touchesBlk s.lent b = true → (m.blk b).kind ≤ 1 := fun b ht => by
    obtain ⟨x, hx, g1, g2⟩ := touches_inv ht
    have h := hs.same x (.inr hx) b g1 g2
    have hk := hs.lk x hx b g1 g2
    cases hx2 : x.2.2 with
    | none => simp only [hx2] at h; rw [h.1]; exact hk
    | some o => simp only [hx2] at h; rw [h.1]; omega
  -- leave
  have okRk : ∀ b o, (s.lo ≤ b ∧ b < s.hi) → ({ m with hid := spansOf tl, pend := tl } : Mem).okR b o → mk.okR b o := fun b o hb h => by
    obtain ⟨h1, h2, h3⟩ := h
    obtain ⟨a1, _, _, a4, _⟩ := alike b hb.1 hb.2
    exact ⟨by rw [← a1]; exact h1, touches_covers (khid b hb.1) o, by rw [← a4]; exact h3⟩
  have hrd : ∀ b o, (permOf (mixR ρ ρk s.lo s.hi) { m with hid := spansOf tl, pend := tl }).rd b o → R.rd b o ∨ S.rd b o := by
    rintro c x ⟨b, q, g1, g2, g3, g4, g5⟩
    rcases hin g1 with ⟨hb, hq⟩ | ⟨hb, hq⟩
    · exact .inr (krd c x ⟨b, q, hq, g2, g3, g4, okRk b _ hb g5⟩)
    · obtain ⟨h1, h2, h3⟩ := g5
      cases hc : covers s.lent b (x - q.d) with
      | false => exact .inl (H.rd c x ⟨b, q, hq, g2, g3, g4, h1, hcov b _ hb hc h2, h3⟩)
      | true =>
        obtain ⟨a1, a2, a3⟩ := lentc b _ hc h1
        refine .inr (krd c x ⟨b, q, ?_, g2, g3, g4, a1, khid' b _ hc, ?_⟩)
        · rw [klow b (lentlow b (covers_touches hc))]; exact hq
        · rw [a2, a3]; exact h3
  have hewr : ∀ b o, E.wr b o → ¬ (permOf (mixR ρ ρk s.lo s.hi) { m with hid := spansOf tl, pend := tl }).rd b o := by
    rintro c x hx ⟨b, q, g1, g2, g3, g4, g5⟩
    rcases hin g1 with ⟨hb, hq⟩ | ⟨hb, hq⟩
    · exact d1.cell c x (H.ewR c x hx) (krd c x ⟨b, q, hq, g2, g3, g4, okRk b _ hb g5⟩)
    · obtain ⟨h1, h2, h3⟩ := g5
      cases hc : covers s.lent b (x - q.d) with
      | false => exact H.ewr c x hx ⟨b, q, hq, g2, g3, g4, h1, hcov b _ hb hc h2, h3⟩
      | true =>
        obtain ⟨a1, a2, a3⟩ := lentc b _ hc h1
        refine d1.cell c x (H.ewR c x hx) (krd c x ⟨b, q, ?_, g2, g3, g4, a1, khid' b _ hc, ?_⟩)
        · rw [klow b (lentlow b (covers_touches hc))]; exact hq
        · rw [a2, a3]; exact h3
  have hobB : ∀ b, ¬ (s.lo ≤ b ∧ b < s.hi) → ((m.blk b).kind = 2 ∨ (m.blk b).kind = 3) → ({ m with hid := spansOf tl, pend := tl } : Mem).ownsObj b = true → m.ownsObj b = true := fun b hb hk ho => by
    obtain ⟨h1, h2⟩ := owns_some ho
    refine owns_mk (htch b hb ?_ h1) h2
    cases ht : touchesBlk s.lent b with
    | false => rfl
    | true => have := lentk b ht; omega
  have hobA : ∀ b, s.lo ≤ b → mk.ownsObj b = true := fun b hb => owns_mk (khid b hb) (by rw [he.home]; exact hb)
  have hob : ∀ b, (permOf (mixR ρ ρk s.lo s.hi) { m with hid := spansOf tl, pend := tl }).ob b → R.ob b ∨ S.ob b := by
    rintro c ⟨b, q, g1, g2, g3, g4⟩
    rcases hin g1 with ⟨hb, hq⟩ | ⟨hb, hq⟩
    · exact .inr (kob c ⟨b, q, hq, g2, by rw [← (alike b hb.1 hb.2).1]; exact g3, hobA b hb.1⟩)
    · exact .inl (H.ob c ⟨b, q, hq, g2, g3, hobB b hb g3 g4⟩)
  have hapo : ∀ b, (permOf (mixR ρ ρk s.lo s.hi) { m with hid := spansOf tl, pend := tl }).ob b → ¬ E.ob b := by
    rintro c ⟨b, q, g1, g2, g3, g4⟩ he
    rcases hin g1 with ⟨hb, hq⟩ | ⟨hb, hq⟩
    · exact d1.obj c (H.eob c he) (kob c ⟨b, q, hq, g2, by rw [← (alike b hb.1 hb.2).1]; exact g3, hobA b hb.1⟩)
    · exact H.apo c ⟨b, q, hq, g2, g3, hobB b hb g3 g4⟩ he
  have hapc : ApC E (mixR ρ ρk s.lo s.hi) { m with hid := spansOf tl, pend := tl } := by
    intro b q x g1 gb g3 g4 g5 hx
    rcases hin g1 with ⟨hb, hq⟩ | ⟨hb, hq⟩
    · exact d2.cell _ _ (kwr q.c x ⟨b, q, hq, rfl, g3, g4, okRk b _ hb g5, .inl (by rw [he.floor]; exact hb.1)⟩) (H.erd _ _ hx)
    · obtain ⟨h1, h2, h3⟩ := g5
      cases hc : covers s.lent b (x - q.d) with
      | false => exact H.apc b q x hq gb g3 g4 ⟨h1, hcov b _ hb hc h2, h3⟩ hx
      | true =>
        obtain ⟨a1, a2, a3⟩ := lentc b _ hc h1
        refine d2.cell _ _ (kwr q.c x ⟨b, q, ?_, rfl, g3, g4, ⟨a1, khid' b _ hc, ?_⟩, .inr (by rw [he.opn]; exact hc)⟩) (H.erd _ _ hx)
        · rw [klow b (lentlow b (covers_touches hc))]; exact hq
        · rw [a2, a3]; exact h3
  have hwr : ∀ b o, (permOf (mixR ρ ρk s.lo s.hi) { m with hid := spansOf tl, pend := tl }).wr b o → R.wr b o := by
    rintro c x ⟨b, q, g1, g2, g3, g4, g5, g6⟩
    have hf : m.floor ≤ b := g6.resolve_right fun h => by
      have h : covers m.opn b (x - q.d) = true := h
      rw [H.opn] at h; cases h
    have hq : ρ b = some q := by
      rcases hin g1 with ⟨hb, _⟩ | ⟨_, hq⟩
      · omega
      · exact hq
    obtain ⟨h1, h2, h3⟩ := g5
    exact H.wr c x ⟨b, q, hq, g2, g3, g4, ⟨h1, touches_covers (hidhi b (by omega)) _, h3⟩, .inl hf⟩
  -- one of each
  have cross : ∀ b b' q q', (s.lo ≤ b ∧ b < s.hi) → ρk b = some q → ¬ (s.lo ≤ b' ∧ b' < s.hi) → ρ b' = some q' → (m.blk b).kind ≠ 0 → (m.blk b').kind ≠ 0 → q.c = q'.c →
      (m.blk b).kind = 1 ∧ (m.blk b').kind = 1 ∧ (q.room = 0 ∨ q'.room = 0 ∨ q.d + q.room ≤ q'.d ∨ q'.d + q'.room ≤ q.d) := by
    intro b b' q q' hb hq hb' hq' hk hk' hc
    have hal := alike b hb.1 hb.2
    by_cases hlow : b' < s.lo
    · have e2 : (mk.blk b').kind = (m.blk b').kind := by rw [kblk]; exact hs.kk b' hlow hk'
      obtain ⟨h1, h2, h3⟩ := sk.sep b b' q q' (by omega) hq (by rw [klow b' hlow]; exact hq') (by rw [← hal.1]; exact hk) (by rw [e2]; exact hk') hc
      exact ⟨by rw [hal.1]; exact h1, by rw [← e2]; exact h2, h3⟩
    · have hhi : s.hi ≤ b' := by omega
      have k3 : (mk.blk b).kind ≤ 3 := by rw [kblk]; exact (hs.live b).2
      have k3' := (H.wf.live b').2
      have ho' : m.ownsObj b' = true := owns_mk (hidhi b' hhi) (by have := hs.hm; omega)
      have shk : (m.blk b).kind = 1 → ∃ y, w.shape? q.c = some y := fun h => by
        obtain ⟨_, _, e, n, h, _⟩ := sk.cells b q hq (by rw [← hal.1]; exact h)
        exact ⟨_, h⟩
      have shk' : (m.blk b').kind = 1 → ∃ y, w.shape? q'.c = some y := fun h => by
        obtain ⟨_, _, e, n, h, _⟩ := H.sim.cells b' q' hq' h
        exact ⟨_, h⟩
      have obk : (m.blk b).kind = 2 ∨ (m.blk b).kind = 3 → (permOf ρk mk).ob q.c := fun h => ⟨b, q, hq, rfl, by rw [← hal.1]; exact h, hobA b hb.1⟩
      have obk' : (m.blk b').kind = 2 ∨ (m.blk b').kind = 3 → (permOf ρ m).ob q'.c := fun h => ⟨b', q', hq', rfl, h, ho'⟩
      rw [← hal.1] at k3
      by_cases e1 : (m.blk b).kind = 1
      · by_cases e2 : (m.blk b').kind = 1
        · refine ⟨e1, e2, ?_⟩
          refine Classical.byContradiction fun hn => ?_
          have hkk : (mk.blk b).kind = 1 := by rw [← hal.1]; exact e1
          have alive : ∀ {k : Blk}, k.live → ∀ o, o < k.cs.length → ∃ v, k.cs[o]? = some (some v) := fun {k} hk o ho => by
            have h1 := List.getElem?_eq_getElem ho
            cases hv : k.cs[o] with
            | none => exact absurd hv (hk.1 _ (List.getElem_mem ho))
            | some v => exact ⟨v, by rw [h1, hv]⟩
          have hy1 : (permOf ρk mk).wr q.c (max q.d q'.d) :=
            ⟨b, q, hq, rfl, by omega, by omega, ⟨hkk, touches_covers (khid b hb.1) _, alive (by rw [kblk]; exact hs.live b) _⟩, .inl (by rw [he.floor]; exact hb.1)⟩
          have hy2 : (permOf ρ m).rd q.c (max q.d q'.d) :=
            ⟨b', q', hq', hc.symm, by omega, by omega, e2, touches_covers (hidhi b' hhi) _, alive (H.wf.live b') _⟩
          exact d2.cell _ _ (kwr _ _ hy1) (H.rd _ _ hy2)
        · exfalso
          obtain ⟨y, hy⟩ := shk e1
          have := (H.sim.low.ob _ (obk' (by omega))).2
          rw [← hc, hy] at this; cases this
      · exfalso
        have o1 := obk (by omega)
        by_cases e2 : (m.blk b').kind = 1
        · obtain ⟨y, hy⟩ := shk' e2
          have := (sk.low.ob _ o1).2
          rw [hc, hy] at this; cases this
        · have o2 := obk' (by omega)
          rw [← hc] at o2
          exact d1.obj _ (H.ob _ o2) (kob _ o1)
  refine ⟨mixR ρ ρk s.lo s.hi, le1, fun b hb => by unfold mixR; rw [if_neg hb], ⟨⟨fun b q h => ?_, fun b q h hk => ?_, fun b q o v h hv => ?_, fun b q o h ho hk hbs => ?_, fun b q h hk ho => ?_, fun b q h hk ho => ?_,
    fun b b' q q' hne h h' hk hk' hc => ?_, fun b q h => ?_, fun b q h hk hpos => ?_⟩, ?_, ?_, fun x hx => spansOf_mem.1 hx, hpw2, H.opn, hrd, hob, hwr, fun b o x => .inl (H.erd b o x), fun b x => .inl (H.eob b x), hapc, hapo, H.ewR, hewr⟩⟩
  · rcases hin h with ⟨hb, _⟩ | ⟨_, hq⟩
    · show b < m.next; omega
    · exact H.sim.dom b q hq
  · rcases hin h with ⟨hb, hq⟩ | ⟨_, hq⟩
    · obtain ⟨a1, a2, _, a4, _⟩ := alike b hb.1 hb.2
      have hk : (m.blk b).kind = 1 := hk
      obtain ⟨h1, h2, h3⟩ := sk.cells b q hq (by rw [← a1]; exact hk)
      exact ⟨h1.trans a2.symm, by show (m.blk b).cs.length ≤ _; rw [a4]; exact h2, h3⟩
    · exact H.sim.cells b q hq hk
  · obtain ⟨c1, c2, c3⟩ := cell_some hv
    have c1 : (m.blk b).kind = 1 := c1
    have c3 : (m.blk b).cs[o]? = some (some v) := c3
    have c2 : covers (spansOf tl) b o = false := c2
    rcases hin h with ⟨hb, hq⟩ | ⟨hb, hq⟩
    · obtain ⟨a1, _, _, a4, _⟩ := alike b hb.1 hb.2
      obtain ⟨v', h1, h2⟩ := sk.vals b q o v hq (cell_mk (by rw [← a1]; exact c1) (touches_covers (khid b hb.1) o) (by rw [← a4]; exact c3))
      exact ⟨v', h1, h2.ren le2⟩
    · cases hc : covers s.lent b o with
      | false =>
        obtain ⟨v', h1, h2⟩ := H.sim.vals b q o v hq (cell_mk c1 (hcov b o hb hc c2) c3)
        exact ⟨v', h1, h2.ren le1⟩
      | true =>
        obtain ⟨a1, a2, _⟩ := lentc b o hc c1
        obtain ⟨v', h1, h2⟩ := sk.vals b q o v (by rw [klow b (lentlow b (covers_touches hc))]; exact hq) (cell_mk a1 (khid' b o hc) (by rw [a2]; exact c3))
        exact ⟨v', h1, h2.ren le2⟩
  · have hk : (m.blk b).kind = 1 := hk
    rcases hin h with ⟨hb, hq⟩ | ⟨_, hq⟩
    · exact sk.thaw b q o hq ho (by rw [← (alike b hb.1 hb.2).1]; exact hk) (Nat.le_trans he.base hb.1)
    · exact H.sim.thaw b q o hq ho hk hbs
  · have hk : (m.blk b).kind = 2 := hk
    rcases hin h with ⟨hb, hq⟩ | ⟨hb, hq⟩
    · obtain ⟨a1, _, _, _, a5⟩ := alike b hb.1 hb.2
      obtain ⟨b1, b2, _⟩ := a5 (by rw [hk]; simp)
      obtain ⟨es', h1, h2⟩ := sk.maps b q hq (by rw [← a1]; exact hk) (hobA b hb.1)
      refine ⟨es', by show _ = some (Obj.map es' (m.blk b).clock); rw [b2]; exact h1, ?_⟩
      show Rel2 _ (m.blk b).es.toList _
      rw [b1]
      exact h2.mono fun _ _ x => ⟨x.1.ren le2, x.2.1.ren le2, x.2.2⟩
    · obtain ⟨es', h1, h2⟩ := H.sim.maps b q hq hk (hobB b hb (.inl hk) ho)
      exact ⟨es', h1, h2.mono fun _ _ x => ⟨x.1.ren le1, x.2.1.ren le1, x.2.2⟩⟩
  · have hk : (m.blk b).kind = 3 := hk
    rcases hin h with ⟨hb, hq⟩ | ⟨hb, hq⟩
    · obtain ⟨a1, _, a3, _, a5⟩ := alike b hb.1 hb.2
      obtain ⟨_, _, b3⟩ := a5 (by rw [hk]; simp)
      obtain ⟨h1, h2⟩ := sk.iters b q hq (by rw [← a1]; exact hk) (hobA b hb.1)
      exact ⟨h1, by show _ = some (Obj.stringIter (m.blk b).str (m.blk b).pos); rw [a3, b3]; exact h2⟩
    · exact H.sim.iters b q hq hk (hobB b hb (.inr hk) ho)
  · have hk : (m.blk b).kind ≠ 0 := hk
    have hk' : (m.blk b').kind ≠ 0 := hk'
    rcases hin h with ⟨hb, hq⟩ | ⟨hb, hq⟩ <;> rcases hin h' with ⟨hb', hq'⟩ | ⟨hb', hq'⟩
    · have a := (alike b hb.1 hb.2).1
      have a' := (alike b' hb'.1 hb'.2).1
      obtain ⟨h1, h2, h3⟩ := sk.sep b b' q q' hne hq hq' (by rw [← a]; exact hk) (by rw [← a']; exact hk') hc
      exact ⟨a.trans h1, a'.trans h2, h3⟩
    · exact cross b b' q q' hb hq hb' hq' hk hk' hc
    · obtain ⟨h1, h2, h3⟩ := cross b' b q' q hb' hq' hb hq hk' hk hc.symm
      exact ⟨h2, h1, by omega⟩
    · exact H.sim.sep b b' q q' hne hq hq' hk hk' hc
  · rcases hin h with ⟨_, hq⟩ | ⟨_, hq⟩
    · exact sk.inw b q hq
    · exact H.sim.inw b q hq
  · have hk : (m.blk b).kind = 1 := hk
    have hpos : (m.blk b).pos = 1 := hpos
    rcases hin h with ⟨hb, hq⟩ | ⟨_, hq⟩
    · obtain ⟨a1, _, a3, _⟩ := alike b hb.1 hb.2
      exact sk.vars b q hq (by rw [← a1]; exact hk) (by rw [← a3]; exact hpos)
    · exact H.sim.vars b q hq hk hpos
  · refine ⟨H.wf.stamp, H.wf.far, fun x hx => ?_, H.wf.fl, H.wf.live⟩
    obtain ⟨t, ht, h⟩ := spansOf_mem.1 hx
    obtain ⟨i, hi⟩ := List.mem_iff_getElem?.1 ht
    obtain ⟨q, _, hq⟩ := hrest.get hi
    exact hq.below x h
  · refine Rel2.of_get hrest.length fun i t q ht hq => ?_
    obtain ⟨q', hq', hsq⟩ := hrest.get ht
    rw [hq] at hq'
    cases hq'
    have h4 := hpw1 t (List.mem_of_getElem? ht)
    have hlo := hsq.lo
    have same : ∀ b, b < t.hi → mixR ρ ρk s.lo s.hi b = ρ b := fun b hb => by unfold mixR; rw [if_neg (by omega)]
    exact ⟨let ⟨ρs, e, hb⟩ := hsq.post; ⟨ρs, e, fun b hbl => by rw [same b (by omega)]; exact hb b hbl⟩, fun b b1 b2 => by rw [same b b2]; exact hsq.none b b1 b2,
      hsq.lo, hsq.hi, hsq.next, hsq.same, fun x hx => spansOf_mem.2 ⟨t, List.mem_of_getElem? ht, hx⟩, hsq.below, hsq.lb, hsq.ap, hsq.lk, hsq.live, hsq.kk, hsq.hm⟩
end
end Go.AM
/-
  ALL ARE JOINED: 'joinA' against the world.
-/
set_option linter.unusedVariables false
set_option linter.unusedSimpArgs false
namespace Go.AM
open Go Go.Conc

theorem Dis.add {R S T : Perm} (h : Dis R T) (k : Dis S T) : Dis (R.add S) T := ⟨h.cell, fun b x => x.elim (h.obj b) (k.obj b)⟩
theorem Dis.add' {R S T : Perm} (h : Dis T R) (k : Dis T S) : Dis T (R.add S) := ⟨fun b o x y => y.elim (h.cell b o x) (k.cell b o x), fun b x y => y.elim (h.obj b x) (k.obj b x)⟩
theorem join_all {E : Perm} {w : World} : ∀ (n : Nat) {R : Perm} {ρ : Ren} {m : Mem} {ps : List Post} {Rs : List Perm}, m.pend.length = n → JI E R ρ m w ps →
    Rel2 (fun p S => p.ok S w ∧ Low S w ∧ Dis R S ∧ Dis S R) ps Rs → Rs.Pairwise (fun S T => Dis S T ∧ Dis T S) →
    ∃ ρ' R', ρ.le ρ' ∧ OldR m ρ ρ' ∧ JI E R' ρ' { m with hid := [], pend := [] } w [] ∧ (∀ b o, R'.rd b o → R.rd b o ∨ ∃ S ∈ Rs, S.rd b o) ∧ ∀ b, R'.ob b → R.ob b ∨ ∃ S ∈ Rs, S.ob b := by
  intro n
  induction n with
  | zero =>
    intro R ρ m ps Rs hn H hr hpw
    have hp : m.pend = [] := List.eq_nil_of_length_eq_zero hn
    have hh : m.hid = [] := List.eq_nil_iff_forall_not_mem.2 fun x hx => by
      obtain ⟨s, hs, _⟩ := H.hid x hx
      rw [hp] at hs; cases hs
    have hps : ps = [] := by
      have := H.sok
      rw [hp] at this
      cases ps with
      | nil => rfl
      | cons a l => exact this.elim
    subst hps
    refine ⟨ρ, R, ρ.le_refl, fun _ _ _ => rfl, ?_, fun _ _ => .inl, fun _ => .inl⟩
    have e : ({ m with hid := [], pend := [] } : Mem) = m := by
      cases m
      simp only at hp hh
      subst hp hh
      rfl
    rw [e]; exact H
  | succ n ih =>
    intro R ρ m ps Rs hn H hr hpw
    cases hp : m.pend with
    | nil => rw [hp] at hn; cases hn
    | cons s tl =>
      have hsok := H.sok
      rw [hp] at hsok
      cases ps with
      | nil => exact hsok.elim
      | cons p ps =>
        cases Rs with
        | nil => exact hr.elim
        | cons S Rs =>
          obtain ⟨⟨r1, r2, r3, r4⟩, hr⟩ := hr
          obtain ⟨hp1, hp2⟩ := List.pairwise_cons.1 hpw
          obtain ⟨ρ₁, le1, old1, H1⟩ := join_one H hp r1 r2 r3 r4
          have hlen : ({ m with hid := spansOf tl, pend := tl } : Mem).pend.length = n := by
            rw [hp] at hn
            exact Nat.succ.inj hn
          have hr' : Rel2 (fun p T => p.ok T w ∧ Low T w ∧ Dis (R.add S) T ∧ Dis T (R.add S)) ps Rs := by
            refine Rel2.of_get hr.length fun i q T hq hT => ?_
            obtain ⟨T', hT', a1, a2, a3, a4⟩ := hr.get hq
            rw [hT] at hT'
            cases hT'
            obtain ⟨b1, b2⟩ := hp1 T (List.mem_of_getElem? hT)
            exact ⟨a1, a2, a3.add b1, a4.add' b2⟩
          obtain ⟨ρ', R', g1, g2, g3, g4, g5⟩ := ih hlen H1 hr' hp2
          refine ⟨ρ', R', Ren.le_trans le1 g1, fun b hb hf => ?_, g3, fun b o x => ?_, fun b x => ?_⟩
          · rw [hp] at hf
            rw [g2 b hb fun t ht => hf t (List.mem_cons_of_mem _ ht)]
            exact old1 b (hf s (List.mem_cons_self ..))
          · rcases g4 b o x with (h | h) | ⟨T, hT, h⟩
            · exact .inl h
            · exact .inr ⟨S, List.mem_cons_self .., h⟩
            · exact .inr ⟨T, List.mem_cons_of_mem _ hT, h⟩
          · rcases g5 b x with (h | h) | ⟨T, hT, h⟩
            · exact .inl h
            · exact .inr ⟨S, List.mem_cons_self .., h⟩
            · exact .inr ⟨T, List.mem_cons_of_mem _ hT, h⟩
def joinM (m : Mem) : Mem := { m with hid := [], floor := m.base, wg := none, pend := [] }
theorem join_hold {P : Program} {E : Perm} {w₀ w : World} {gr : GS} {ρ : Ren} {m : Mem} {Rs : List Perm} (H : Hold P E w₀ (.grp gr) ρ m w) (hop : m.opn = [])
    (hr : Rel2 (fun p S => p.ok S w ∧ Low S w ∧ Dis ((permOf ρ m).or E) S ∧ Dis S ((permOf ρ m).or E)) gr.posts Rs) (hpw : Rs.Pairwise (fun S T => Dis S T ∧ Dis T S)) :
    ∃ ρ', ρ.le ρ' ∧ OldR m ρ ρ' ∧ Hold P E w₀ .idle ρ' (joinM m) w ∧ (∀ b o, ((permOf ρ' (joinM m)).or E).rd b o → ((permOf ρ m).or E).rd b o ∨ ∃ S ∈ Rs, S.rd b o) ∧
      ∀ b, ((permOf ρ' (joinM m)).or E).ob b → ((permOf ρ m).or E).ob b ∨ ∃ S ∈ Rs, S.ob b := by
  obtain ⟨g1, g2, g0, wa, k1, k2, k3, k4, k5, k6, k7⟩ := H.grp
  have HJ : JI E ((permOf ρ m).or E) ρ m w gr.posts := ⟨H.sim, H.wf, k5, k6, k7, hop, fun _ _ => .inl, fun _ => .inl, fun _ _ => .inl, fun _ _ => .inr, fun _ => .inr, H.apc, fun b x y => (H.apart.obj b y).2.1 x, fun _ _ => .inr, H.ew⟩
  obtain ⟨ρ', R', h1, h2, h3, h4, h5⟩ := join_all _ rfl HJ hr hpw
  refine ⟨ρ', h1, h2, ⟨h3.sim.fields m.base m.opn none [], H.rest, ⟨fun b o he => ⟨(H.apart.cell b o he).1, ?_⟩, fun b he => ⟨(H.apart.obj b he).1, ?_, (H.apart.obj b he).2.2⟩, H.apart.wf⟩,
    fun g hg => let ⟨p, a, b⟩ := H.glob g hg; ⟨p, h1 _ _ a, b⟩, ⟨rfl, rfl, g0.1⟩, ⟨H.wf.stamp, H.wf.far, fun x hx => (by cases hx), g0.2, H.wf.live⟩, h3.apc, fun b o hx hr => h3.ewr b o hx hr⟩, fun b o hx => ?_, fun b hx => ?_⟩
  · rintro ⟨x, p, a1, rfl, a3, a4, a5, a6⟩
    refine h3.apc x p o a1 ?_ a3 a4 a5 he
    rcases a6 with a6 | a6
    · exact a6
    · have a6 : covers m.opn x (o - p.d) = true := a6
      rw [hop] at a6; cases a6
  · exact fun hx => h3.apo b hx he
  · rcases hx with ⟨x, p, a1, a2, a3, a4, a5⟩ | hx
    · exact h4 b o (h3.rd b o ⟨x, p, a1, a2, a3, a4, a5⟩)
    · exact .inl (.inr hx)
  · rcases hx with ⟨x, p, a1, a2, a3, a4⟩ | hx
    · exact h5 b (h3.ob b ⟨x, p, a1, a2, a3, a4⟩)
    · exact .inl (.inr hx)
theorem mv_join (m : Mem) (hf : m.base ≤ m.next) : Mv m (joinM m) :=
  ⟨Nat.le_refl _, Nat.le_refl _, fun h => ⟨h.stamp, h.far, fun x hx => (by cases hx), hf, h.live⟩, fun _ => .inl rfl, fun s hs => (by cases hs)⟩
end Go.AM
