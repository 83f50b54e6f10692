/-
  REGIONS WHOSE ORDER IS DRAWN, 10: stage by stage; the whole region.
-/
import Derived.Test.YtgfppohfgconeaaGreatDoorA3
import Derived.Conc.CompanyDraw
import Derived.Conc.CrowdBase
import Derived.Conc.Beside
set_option linter.unusedVariables false
set_option linter.unusedSimpArgs false
namespace Go.AM
open Go Go.Conc

section
variable {P : Program} {X : Ext} {main : Bool} {J : JT} {F : Mem → Mem → Prop} {ops : Array Oper} {bef : Array Nat} {nt : Nat} {call : CallT} {r : Ss} {tm0 : Tm}
theorem heavy_not_light {i : Nat} (h : i ∈ heavies ops) : ¬ ∃ o, ops[i]? = some o ∧ light o = true := by
  rintro ⟨o, ho, hl⟩
  obtain ⟨o', ho', hl'⟩ := mem_heavies.1 h
  rw [ho] at ho'; cases ho'
  rw [hl] at hl'; cases hl'
theorem pre_not {pre rest : List Nat} (hh : heavies ops = pre ++ rest) {x : Nat} (hx : x ∈ rest) : x ∉ pre := by
  intro hp
  have := heavies_sorted (ops := ops)
  rw [hh] at this
  have := (List.pairwise_append.1 this).2.2 x hp x hx
  omega
theorem ss_not {pre rest : List Nat} (hh : heavies ops = pre ++ rest) {x : Nat} (hx : x ∈ rest) : ¬ SS ops bef pre x := by
  rintro (⟨h, _⟩ | h)
  · exact heavy_not_light (by rw [hh]; exact List.mem_append_right _ hx) h
  · exact pre_not hh hx h
theorem ss_down (R : RegOk ops bef nt) {pre rest : List Nat} (hh : heavies ops = pre ++ rest) {i : Nat} (hl : ∃ o, ops[i]? = some o ∧ light o = true) (hf : fromA bef (heavies ops) i < pre.length) : ∀ j, B bef i j → SS ops bef pre j := by
  intro j hb
  obtain ⟨o, ho, _⟩ := hl
  have hi := lt_of_get ho
  have hji := R.ord.lt hi hb
  have hjo : ops[j]? = some ops[j] := Array.getElem?_eq_getElem (by omega)
  cases hlj : light ops[j] with
  | true =>
    have := R.from_mono hi hb
    exact .inl ⟨⟨_, hjo, hlj⟩, by omega⟩
  | false =>
    obtain ⟨q, hq⟩ := List.mem_iff_getElem?.1 (mem_heavies.2 ⟨_, hjo, hlj⟩)
    have h1 := (R.from_iff hi hq).1 hb
    rw [hh, List.getElem?_append_left (by omega)] at hq
    exact .inr (List.mem_of_getElem? hq)

set_option maxHeartbeats 1000000 in
theorem stage_real (hJ : ∀ σ, Judge P main (J σ)) (hX : Fine P X) (hF : FRel F) (C : CallOk P X main J F call) (R : RegOk ops bef nt) {N₀ : Nat} : ∀ {rest pre : List Nat} {tm : Tm} {m : Mem} {df : Df} {F0 : OpsF} {tmI : Nat → Tm} {vI : Nat → Value}, heavies ops = pre ++ rest →
    turnsF P nt ops (stagesT ops bef (heavies ops) nt pre.length rest) = some F0 → F0 call tm m df = some r → Wf m → Ex ops nt r tm0 (SS ops bef pre) tm → N₀ ≤ m.next → PendAll P ops bef nt r tm0 pre.length N₀ tmI vI m tm →
    F m r.mem ∧ ∃ c, StageGoal P J ops bef nt r tm0 N₀ pre rest tmI vI pre.length m df c := by
  intro rest
  induction rest with
  | nil =>
    intro pre tm m df F0 tmI vI hh hT hf hw hex hN hp
    unfold stagesT at hT
    obtain ⟨F1, tm1, m1, hF1, hf1, hg, hex1, hsl, tmL, vL, q1, q2, q3⟩ := lights_run (P := P) (call := call) R (T := []) (lin_lights R hh) (fun x y h => by cases h) (by rw [List.append_nil]; exact hT) hf hw hex
    unfold turnsF at hF1
    cases hF1
    unfold endF at hf1
    simp only [Option.some.injEq] at hf1
    refine ⟨hF.fr (by rw [← hf1]; exact hg.fr.w), 0, ?_⟩
    have hstage : StageGoal P J ops bef nt r tm0 N₀ pre [] (fun i => if fromA bef (heavies ops) i = pre.length then tmL i else tmI i) (fun i => if fromA bef (heavies ops) i = pre.length then vL i else vI i) (pre.length + 1) m1 df 0 := within_stage (P := P) (J := J) (c := 0) (df := df) (r := r) (tm0 := tm0) (tm := tm1) hJ hX R hh (N₀ := N₀) (tmI := fun i => if fromA bef (heavies ops) i = pre.length then tmL i else tmI i) (vI := fun i => if fromA bef (heavies ops) i = pre.length then vL i else vI i)
      (Nat.le_trans hN hg.next) (.inr trivial)
      (fun i h1 h2 h3 => by
        by_cases he : fromA bef (heavies ops) i = pre.length
        · simp only [he, if_true]; exact q1 i (mem_lights.2 ⟨h1, he⟩)
        · simp only [he, if_false]
          exact (hp.pend i h1 (by omega) h3).grow hw hg (hsl i fun hm => he (mem_lights.1 hm).2))
      (fun i h1 h2 β hβ => by
        by_cases he : fromA bef (heavies ops) i = pre.length
        · simp only [he, if_true] at hβ; have := q2 i (mem_lights.2 ⟨h1, he⟩) β hβ; omega
        · simp only [he, if_false] at hβ; have := hp.made i h1 (by omega) β hβ; have := hg.next; omega)
      (fun i j h1 h2 h3 h4 hij β hβ hβ' => by
        by_cases he : fromA bef (heavies ops) i = pre.length <;> by_cases he' : fromA bef (heavies ops) j = pre.length
        · simp only [he, if_true] at hβ; simp only [he', if_true] at hβ'; exact q3 i (mem_lights.2 ⟨h1, he⟩) j (mem_lights.2 ⟨h2, he'⟩) hij β hβ hβ'
        · simp only [he, if_true] at hβ; simp only [he', if_false] at hβ'
          have := q2 i (mem_lights.2 ⟨h1, he⟩) β hβ
          have := hp.made j h2 (by omega) β hβ'; omega
        · simp only [he, if_false] at hβ; simp only [he', if_true] at hβ'
          have := q2 j (mem_lights.2 ⟨h2, he'⟩) β hβ'
          have := hp.made i h1 (by omega) β hβ; omega
        · simp only [he, if_false] at hβ; simp only [he', if_false] at hβ'
          exact hp.apart i j h1 h2 (by omega) (by omega) hij β hβ hβ')
      (fun _ {E w₀ σ ρ w b a k cs D n} hk hl H hrt hds hfin => by
        have e : r.mem = m1 := by rw [← hf1]
        have ed : r.df = df := by rw [← hf1]
        have et : r.tm = tm1 := by rw [← hf1]
        have := hfin σ ρ w a (Ren.le_refl _) (fun _ _ => rfl) (by rw [e]; exact H) ⟨hrt.size, fun t ht => by
          by_cases hw : ∃ i, dstOf ops i = some t
          · obtain ⟨i, hi⟩ := hw
            refine hrt.done t ht i ?_ hi
            rcases hl.all i (dst_lt hi) with h | h
            · exact h
            · cases h
          · have hn : ∀ i, dstOf ops i ≠ some t := fun i hi => hw ⟨i, hi⟩
            rw [et, (hex1 t ht).2 fun i _ => hn i]
            exact hrt.old t ht fun i _ => hn i, by rw [ed]; exact hds⟩
        rw [e] at this
        exact this)
      (fun h rest' e => by cases e)
    intro E w₀ σ ρ w b a k cs l D n hk hl hpre hrest H hrt hds hmk hfin
    obtain ⟨H', hperm⟩ := H.grow hg
    rw [← hperm]
    refine hstage hk hl hpre hrest H' hrt hds (fun i h1 h2 h3 β hβ => ?_) hfin
    by_cases he : fromA bef (heavies ops) i = pre.length
    · simp only [he, if_true] at hβ
      have := q2 i (mem_lights.2 ⟨h1, he⟩) β hβ
      cases hρ : ρ β with
      | none => rfl
      | some p => have := H.sim.dom β p hρ; omega
    · simp only [he, if_false] at hβ
      exact hmk i h1 (by omega) h3 β hβ
  | cons h rest ih =>
    intro pre tm m df F0 tmI vI hh hT hf hw hex hN hp
    have hhm : h ∈ heavies ops := by rw [hh]; simp
    have hhl := heavy_not_light hhm
    have hh' : heavies ops = (pre ++ [h]) ++ rest := by rw [hh]; simp
    have hpl : (pre ++ [h]).length = pre.length + 1 := by simp
    unfold stagesT at hT
    have hTn : ∀ x y, ((0, x, y) : Turn) ∈ (0, h, 1) :: (checksT ops bef (heavies ops) nt pre.length ++ stagesT ops bef (heavies ops) nt (pre.length + 1) rest) → ¬ SS ops bef pre x ∧ x ∉ lightsAt ops bef (heavies ops) pre.length := by
      intro x y hx
      rcases List.mem_cons.1 hx with e | hx
      · cases e
        exact ⟨ss_not hh (by simp), fun hm => hhl (mem_lights.1 hm).1⟩
      · rcases List.mem_append.1 hx with hx | hx
        · unfold checksT at hx
          obtain ⟨z, _, e⟩ := List.mem_map.1 hx
          cases e
        · rw [← hpl] at hx
          rcases stages_mem hh' x y hx with hm | ⟨h1, h2⟩
          · exact ⟨ss_not hh (by simp [hm]), fun hm' => heavy_not_light (by rw [hh']; exact List.mem_append_right _ hm) (mem_lights.1 hm').1⟩
          · refine ⟨?_, fun hm => by have := (mem_lights.1 hm).2; omega⟩
            rintro (⟨_, h3⟩ | h3)
            · omega
            · exact heavy_not_light (by rw [hh]; exact List.mem_append_left _ h3) h1
    obtain ⟨F1, tm1, m1, hF1, hf1, hg, hex1, hsl, tmL, vL, q1, q2, q3⟩ := lights_run (P := P) (call := call) R (lin_lights R hh) hTn hT hf hw hex
    have hw1 : Wf m1 := hg.fr.2.2 hw
    obtain ⟨F2, hF2, ht2⟩ := turns_cons hF1
    obtain ⟨tm2, m2, df2, hone, hf2, hpd⟩ := turn_inv ht2 hf1
    replace hpd := hpd (by decide)
    obtain ⟨F3, hF3, hf3, hchk⟩ := checks_run hF2 hf2
    obtain ⟨vv, htm2, hd512⟩ := one_tm hone
    obtain ⟨o, ho, hgood, hguard, hdo⟩ := hone
    have ed : dstOf ops h = o.dst := by unfold dstOf; rw [ho]; rfl
    -- the data of all light operations so far
    generalize htmI' : (fun i => if fromA bef (heavies ops) i = pre.length then tmL i else tmI i) = tmI'
    generalize hvI' : (fun i => if fromA bef (heavies ops) i = pre.length then vL i else vI i) = vI'
    have eT : ∀ i, tmI' i = if fromA bef (heavies ops) i = pre.length then tmL i else tmI i := fun i => by rw [← htmI']
    have eV : ∀ i, vI' i = if fromA bef (heavies ops) i = pre.length then vL i else vI i := fun i => by rw [← hvI']
    have hpend : ∀ i, (∃ o, ops[i]? = some o ∧ light o = true) → fromA bef (heavies ops) i ≤ pre.length → pre.length ≤ tillA bef (heavies ops) i → Pend P ops bef nt r tm0 i (tmI' i) (vI' i) m1 tm1 := by
      intro i h1 h2 h3
      rw [eT, eV]
      by_cases he : fromA bef (heavies ops) i = pre.length
      · simp only [he, if_true]; exact q1 i (mem_lights.2 ⟨h1, he⟩)
      · simp only [he, if_false]
        exact (hp.pend i h1 (by omega) h3).grow hw hg (hsl i fun hm => he (mem_lights.1 hm).2)
    have hmade : ∀ i, (∃ o, ops[i]? = some o ∧ light o = true) → fromA bef (heavies ops) i ≤ pre.length → ∀ β, MkOf P ops i (tmI' i) (vI' i) β → N₀ ≤ β ∧ β < m1.next := by
      intro i h1 h2 β hβ
      rw [eT, eV] at hβ
      by_cases he : fromA bef (heavies ops) i = pre.length
      · simp only [he, if_true] at hβ; have := q2 i (mem_lights.2 ⟨h1, he⟩) β hβ; omega
      · simp only [he, if_false] at hβ; have := hp.made i h1 (by omega) β hβ; have := hg.next; omega
    have hapart : ∀ i j, (∃ o, ops[i]? = some o ∧ light o = true) → (∃ o, ops[j]? = some o ∧ light o = true) → fromA bef (heavies ops) i ≤ pre.length → fromA bef (heavies ops) j ≤ pre.length → i ≠ j → ∀ β, MkOf P ops i (tmI' i) (vI' i) β → ¬ MkOf P ops j (tmI' j) (vI' j) β := by
      intro i j h1 h2 h3 h4 hij β hβ hβ'
      rw [eT, eV] at hβ hβ'
      by_cases he : fromA bef (heavies ops) i = pre.length <;> by_cases he' : fromA bef (heavies ops) j = pre.length
      · simp only [he, if_true] at hβ; simp only [he', if_true] at hβ'; exact q3 i (mem_lights.2 ⟨h1, he⟩) j (mem_lights.2 ⟨h2, he'⟩) hij β hβ hβ'
      · simp only [he, if_true] at hβ; simp only [he', if_false] at hβ'
        have := q2 i (mem_lights.2 ⟨h1, he⟩) β hβ
        have := hp.made j h2 (by omega) β hβ'; omega
      · simp only [he, if_false] at hβ; simp only [he', if_true] at hβ'
        have := q2 j (mem_lights.2 ⟨h2, he'⟩) β hβ'
        have := hp.made i h1 (by omega) β hβ; omega
      · simp only [he, if_false] at hβ; simp only [he', if_false] at hβ'
        exact hp.apart i j h1 h2 (by omega) (by omega) hij β hβ hβ'
    -- the heavy operation
    have hSh : ¬ (SS ops bef pre h ∨ h ∈ lightsAt ops bef (heavies ops) pre.length) := by
      rintro (h1 | h1)
      · exact ss_not hh (by simp) h1
      · exact hhl (mem_lights.1 h1).1
    have hidx : (heavies ops)[pre.length]? = some h := nth_heavy hh
    have hhlt : h < ops.size := lt_of_get ho
    have hahead : ∀ j, B bef h j → SS ops bef pre j ∨ j ∈ lightsAt ops bef (heavies ops) pre.length := by
      intro j hb
      have hjh := R.ord.lt hhlt hb
      have hjo : ops[j]? = some ops[j] := Array.getElem?_eq_getElem (by omega)
      cases hlj : light ops[j] with
      | true =>
        have h1 := (R.till_iff hidx).1 hb
        have h2 := R.from_till (i := j) (by omega)
        by_cases he : fromA bef (heavies ops) j = pre.length
        · exact .inr (mem_lights.2 ⟨⟨_, hjo, hlj⟩, he⟩)
        · exact .inl (.inl ⟨⟨_, hjo, hlj⟩, by omega⟩)
      | false =>
        obtain ⟨q, hq⟩ := List.mem_iff_getElem?.1 (mem_heavies.2 ⟨_, hjo, hlj⟩)
        rcases Nat.lt_or_ge q pre.length with h1 | h1
        · rw [hh, List.getElem?_append_left h1] at hq
          exact .inl (.inr (List.mem_of_getElem? hq))
        · exfalso
          rcases Nat.eq_or_lt_of_le h1 with h2 | h2
          · rw [← h2, hidx] at hq; cases hq; omega
          · have hb2 := R.chain pre.length q h j h2 hidx hq
            have := R.ord.lt (by omega) hb2
            omega
    have hbackh : ∀ j, (SS ops bef pre j ∨ j ∈ lightsAt ops bef (heavies ops) pre.length) → ¬ B bef j h := by
      intro j hj hb
      have hlj : (∃ o, ops[j]? = some o ∧ light o = true) → fromA bef (heavies ops) j ≤ pre.length → False := fun ⟨o', ho', _⟩ hle => by
        have := (R.from_iff (lt_of_get ho') hidx).1 hb; omega
      rcases hj with (⟨h1, h2⟩ | h1) | h1
      · exact hlj h1 (by omega)
      · obtain ⟨q, hq, rfl⟩ := List.mem_iff_getElem.1 h1
        have hq' : (heavies ops)[q]? = some pre[q] := by rw [hh, List.getElem?_append_left hq]; exact List.getElem?_eq_getElem hq
        have hb2 := R.chain q pre.length _ _ hq hq' hidx
        have hpm : pre[q] ∈ heavies ops := by rw [hh]; exact List.mem_append_left _ h1
        obtain ⟨o', ho', _⟩ := mem_heavies.1 hpm
        have := R.ord.lt (lt_of_get ho') hb
        have := R.ord.lt hhlt hb2
        omega
      · obtain ⟨h2, h3⟩ := mem_lights.1 h1
        exact hlj h2 (by omega)
    have hseenh : Seen ops bef nt r tm0 h tm1 := seen_of R hex1 hahead hbackh
    have hrestT : ∀ x y, ((0, x, y) : Turn) ∈ checksT ops bef (heavies ops) nt pre.length ++ stagesT ops bef (heavies ops) nt (pre.length + 1) rest → x ≠ h := by
      intro x y hx e
      subst e
      rcases List.mem_append.1 hx with hx | hx
      · unfold checksT at hx
        obtain ⟨z, _, e⟩ := List.mem_map.1 hx
        cases e
      · rw [← hpl] at hx
        rcases stages_mem hh' x y hx with hm | ⟨h1, _⟩
        · exact pre_not hh' hm (by simp)
        · exact hhl h1
    have hkeep : ∀ d, dstOf ops h = some d → d < nt → tget d tm2 = tget d r.tm := fun d hd hlt => (turns_keep R.nt hF2 hf2 d hlt fun x y hx he => R.uniq x h d (hrestT x y hx) he hd).symm
    have hvr : ∀ d, dstOf ops h = some d → d < nt → vv = tget d r.tm := fun d hd hlt => by
      rw [← hkeep d hd hlt, htm2, tget_putT hd512 (Nat.lt_of_lt_of_le hlt R.nt), if_pos hd]
    have hex2 : Ex ops nt r tm0 (SS ops bef (pre ++ [h])) tm2 := by
      rw [htm2]
      refine (hex1.step R hSh hd512 hvr).iff fun x => ?_
      unfold SS
      rw [hpl, mem_lights, List.mem_append, List.mem_singleton]
      constructor
      · rintro (((⟨a1, a2⟩ | a1) | ⟨a1, a2⟩) | a1)
        · exact .inl ⟨a1, by omega⟩
        · exact .inr (.inl a1)
        · exact .inl ⟨a1, by omega⟩
        · exact .inr (.inr a1)
      · rintro (⟨a1, a2⟩ | (a1 | a1))
        · by_cases he : fromA bef (heavies ops) x = pre.length
          · exact .inl (.inr ⟨a1, he⟩)
          · exact .inl (.inl (.inl ⟨a1, by omega⟩))
        · exact .inl (.inl (.inr a1))
        · exact .inr a1
    -- what it does
    obtain ⟨hF12, ch, hdoes⟩ : F m1 m2 ∧ ∃ ch, ∀ {E : Perm} {w₀ : World} {σ : GSt} {ρ : Ren} {w : World} {b : Frame} {a : Act} {k : List Item} {cs : List Frame} {l : List Nat} {n : Nat}, b.kind ≠ .early → a.tmps.size = nt → Hold P E w₀ σ ρ m1 w →
        (∀ t ∈ seesT ops o, t < nt → VRel ρ (tget t tm1) (a.tmps.getD t undef)) → Rel2 (DRel ρ) df a.defers →
        (∀ σ' ρ' v' w' ds, ρ.le ρ' → (∀ b, b < m1.next → ρ' b = ρ b) → Hold P E w₀ σ' ρ' m2 w' → (∃ v, VRel ρ' v v' ∧ ∀ d, o.dst = some d → d < nt → v = tget d r.tm) → Rel2 (DRel ρ') df2 ds → J σ' n ((permOf ρ' m2).or E) (G (b.at (Act.put ⟨a.tmps, ds⟩ o.dst v') (.inRegion ops l :: k)) cs) w') →
        J σ (n + ch) ((permOf ρ m1).or E) (G (b.at a (.inRegion ops (h :: l) :: k)) cs) w := by
      rcases hdo with ⟨hwt, v, hd, htv⟩ | ⟨hwt, htv, rfl, rfl⟩
      · obtain ⟨g1, c, g2⟩ := does_real (P := P) (ops := ops) hJ hX hF C ho hw1 hd
        have hv' : ∀ d, o.dst = some d → d < nt → v = tget d r.tm := fun d hd' hlt => by
          have h1 := hkeep d (by rw [ed]; exact hd') hlt
          rw [← h1, htv, tget_putT (fun x hx => hd512 x (by rw [ed]; exact hx)) (Nat.lt_of_lt_of_le hlt R.nt), if_pos hd']
        refine ⟨g1, c, fun {E w₀ σ ρ w b a k cs l n} hk hsz H hsr hds hn => ?_⟩
        have hgd : ∀ j want, o.guard = some (j, want) → ∃ g, dstOf ops j = some g ∧ g < nt := fun j want hj => let ⟨g, k1, k2, _⟩ := hguard j want hj; ⟨g, k1, k2⟩
        exact g2 hk ((wanted_rel' hsr hgd hsz).trans hwt) H (op_rel H hsr hgood.1) hds fun σ' ρ' v' w' ds hle hold H' hv hds' => hn σ' ρ' v' w' ds hle (fun b hb => hold b hb (by rw [hpd]; intro s hs; cases hs)) H' ⟨v, hv, hv'⟩ hds'
      · refine ⟨hF.refl _, 1, fun {E w₀ σ ρ w b a k cs l n} hk hsz H hsr hds hn => ?_⟩
        have hgd : ∀ j want, o.guard = some (j, want) → ∃ g, dstOf ops j = some g ∧ g < nt := fun j want hj => let ⟨g, k1, k2, _⟩ := hguard j want hj; ⟨g, k1, k2⟩
        have hv' : ∀ d, o.dst = some d → d < nt → undef = tget d r.tm := fun d hd' hlt => by
          have h1 := hkeep d (by rw [ed]; exact hd') hlt
          rw [← h1, htv, tget_putT (fun x hx => hd512 x (by rw [ed]; exact hx)) (Nat.lt_of_lt_of_le hlt R.nt), if_pos hd']
        refine unwanted_real (hJ σ) ho ((wanted_rel' hsr hgd hsz).trans hwt) fun w₁ hk₁ => ?_
        exact hn σ ρ undef w₁ a.defers (Ren.le_refl _) (fun _ _ => rfl) (H.keeps hk₁) ⟨undef, vrel_undef, hv'⟩ hds
    have hMv := hF.mv hF12
    have hw2 : Wf m2 := hMv.wf hw1
    have hN2 : N₀ ≤ m2.next := Nat.le_trans hN (Nat.le_trans hg.next hMv.next)
    have hslot2 : ∀ i, nt + i < 512 → tget (nt + i) tm2 = tget (nt + i) tm1 := fun i hi => by
      rw [htm2, tget_putT hd512 hi, if_neg]
      intro he
      have h1 : nt + i < nt := R.ord.dst h o _ ho (by rw [← ed]; exact he)
      omega
    obtain ⟨hFr, cr, hgoal⟩ := ih (pre := pre ++ [h]) (tm := tm2) (m := m2) (df := df2) (F0 := F3) (tmI := tmI') (vI := vI') hh' (by rw [hpl]; exact hF3) hf3 hw2 hex2 hN2 ⟨fun i h1 h2 h3 => by
        rw [hpl] at h2 h3
        refine (hpend i h1 (by omega) (by omega)).across R hMv (hslot2 i) hex2 (.inl ⟨h1, by rw [hpl]; omega⟩) (ss_down R hh' h1 (by rw [hpl]; omega)) (fun hc => ?_) (by omega)
        refine hchk i ?_
        rw [List.mem_filter, List.mem_range]
        obtain ⟨o', ho', hl'⟩ := h1
        refine ⟨lt_of_get ho', ?_⟩
        simp only [ho', Option.any_some, hl', hc, Bool.true_and, Bool.and_eq_true, decide_eq_true_eq]
        omega, fun i h1 h2 β hβ => by
          rw [hpl] at h2
          have := hmade i h1 (by omega) β hβ
          have := hMv.next
          omega, fun i j h1 h2 h3 h4 => by rw [hpl] at h3 h4; exact hapart i j h1 h2 (by omega) (by omega)⟩
    refine ⟨hF.trans (hF.fr hg.fr.w) (hF.trans hF12 hFr), cr + ch, ?_⟩
    have hstage : StageGoal P J ops bef nt r tm0 N₀ pre (h :: rest) tmI' vI' (pre.length + 1) m1 df (cr + ch) := within_stage (P := P) (J := J) (c := cr + ch) (df := df) (r := r) (tm0 := tm0) (tm := tm1) hJ hX R hh (N₀ := N₀) (tmI := tmI') (vI := vI') (Nat.le_trans hN hg.next) (.inr trivial) hpend hmade hapart (fun e => by cases e)
      (fun h' rest' e {E w₀ σ ρ w b a k cs l D n} hk hl hpre hrest H hrt hds hmk hfin => by
        cases e
        obtain ⟨d1, d2, d3, d4⟩ := hl.head
        have hback : ∀ j, D j → ¬ B bef j h := fun j hj hb => d2 (hl.down j hj h hb)
        have hsr := seen_rel R hseenh hrt d1 hback ho
        refine (hJ σ).le (show (n + cr + l.length) + ch ≤ n + (cr + ch) + (l.length + 1) by omega) ?_
        refine hdoes hk hrt.size H hsr hds fun σ' ρ' v' w' ds hle hold H' ⟨v, hv, hvd⟩ hds' => ?_
        refine hgoal (D := fun x => D x ∨ x = h) hk d4 (fun x hx => ?_) (fun x hx hd => ?_) H' ((hrt.ren hle).step R ho hv hvd ds) (by rw [(put_tmps ⟨a.tmps, ds⟩ o.dst v').1]; exact hds') (fun i h1 h2 h3 β hβ => ?_) (fun σ₂ ρ₂ w₂ a₂ hle₂ hold₂ => hfin σ₂ ρ₂ w₂ a₂ (Ren.le_trans hle hle₂) fun b hb => ?_)
        · rcases List.mem_append.1 hx with hx | hx
          · exact .inl (hpre x hx)
          · exact .inr (by simpa using hx)
        · rcases hd with hd | rfl
          · exact hrest x (by simp [hx]) hd
          · exact pre_not hh' hx (by simp)
        · rw [hpl] at h2
          rw [hold β (hmade i h1 (by omega) β hβ).2]
          exact hmk i h1 (by omega) (fun hd => h3 (.inl hd)) β hβ
        · rw [hold₂ b hb, hold b (by have := hg.next; omega)])
    intro E w₀ σ ρ w b a k cs l D n hk hl hpre hrest H hrt hds hmk hfin
    obtain ⟨H', hperm⟩ := H.grow hg
    rw [← hperm]
    refine hstage hk hl hpre hrest H' hrt hds (fun i h1 h2 h3 β hβ => ?_) hfin
    rw [eT, eV] at hβ
    by_cases he : fromA bef (heavies ops) i = pre.length
    · simp only [he, if_true] at hβ
      have := q2 i (mem_lights.2 ⟨h1, he⟩) β hβ
      cases hρ : ρ β with
      | none => rfl
      | some p => have := H.sim.dom β p hρ; omega
    · simp only [he, if_false] at hβ
      exact hmk i h1 (by omega) h3 β hβ
end
end Go.AM
/-
  CODE: what its closure does, the goroutine does.
-/
set_option linter.unusedVariables false
set_option linter.unusedSimpArgs false
namespace Go.AM
open Go Go.Conc

/-- Where the goroutine stands when a piece of code has been left so. -/
def Out (e : Exit) (k todo : List Item) : Prop :=
  match e with
  | .normal => todo = k
  | .ret => ∃ k', todo = .code .ret :: k'
  | .exit id => ∃ k', todo = .code (.exit id) :: k' ∧ exitTo id k' = exitTo id k
  | .goto l => ∃ k', todo = .code (.goto l) :: k' ∧ gotoIn l k' = gotoIn l k
  | _ => False

/-- From todo A, state st, to todo B, state st'. -/
structure Runs (P : Program) (J : JT) (nt : Nat) (st st' : Ss) (A : List Item) (B : List Item → Prop) (c : Nat) : Prop where
  go : ∀ {E : Perm} {w₀ : World} {σ : GSt} {ρ : Ren} {w : World} {b : Frame} {a : Act} {cs : List Frame} {n : Nat}, b.kind ≠ .early → Hold P E w₀ σ ρ st.mem w → ARel nt ρ st.tm st.df a →
    (∀ σ' ρ' w' a' todo, B todo → ρ.le ρ' → OldR st.mem ρ ρ' → Hold P E w₀ σ' ρ' st'.mem w' → ARel nt ρ' st'.tm st'.df a' → J σ' n ((permOf ρ' st'.mem).or E) (G (b.at a' todo) cs) w') →
    J σ (n + c) ((permOf ρ st.mem).or E) (G (b.at a A) cs) w
section
variable {P : Program} {X : Ext} {main : Bool} {J : JT} {F : Mem → Mem → Prop} {nt : Nat} {call : CallT}
theorem Runs.trans {st st₁ st₂ : Ss} {A : List Item} {B C : List Item → Prop} {c d : Nat} (h : Runs P J nt st st₁ A B c) (hn : Mv st.mem st₁.mem) (k : ∀ A', B A' → Runs P J nt st₁ st₂ A' C d) : Runs P J nt st st₂ A C (d + c) := by
  refine ⟨fun {E w₀ σ ρ w b a cs n} hk H ha hn' => ?_⟩
  rw [← Nat.add_assoc]
  refine h.go hk H ha fun σ' ρ' w' a' todo hB hle hold H' ha' => (k todo hB).go hk H' ha' fun σ₂ ρ₂ w₂ a₂ todo₂ hC hle₂ hold₂ H₂ ha₂ => hn' σ₂ ρ₂ w₂ a₂ todo₂ hC (Ren.le_trans hle hle₂) (hold.trans hn hold₂) H₂ ha₂
theorem Runs.weaken {st st' : Ss} {A : List Item} {B C : List Item → Prop} {c : Nat} (h : Runs P J nt st st' A B c) (k : ∀ A', B A' → C A') : Runs P J nt st st' A C c := by
  refine ⟨fun {E w₀ σ ρ w b a cs n} hk H ha hn' => ?_⟩
  exact h.go hk H ha fun σ' ρ' w' a' todo hB => hn' σ' ρ' w' a' todo (k todo hB)
theorem Runs.here {st : Ss} {A : List Item} {B : List Item → Prop} (h : B A) : Runs P J nt st st A B 0 := by
  refine ⟨fun {E w₀ σ ρ w b a cs n} hk H ha hn' => ?_⟩
  exact hn' σ ρ w a A h (Ren.le_refl _) (.of fun _ _ => rfl) H ha
/-- A move of control. -/
theorem Runs.move (hJ : ∀ σ, Judge P main (J σ)) {st : Ss} {A A' : List Item} (h : ∀ {b : Frame} {a : Act} {cs : List Frame} {w : World}, stepG P main (G (b.at a A) cs) w = .go (G (b.at a A') cs) w #[]) : Runs P J nt st st A (· = A') 1 := by
  refine ⟨fun {E w₀ σ ρ w b a cs n} hk H ha hn' => ?_⟩
  refine idle_real (hJ σ) rfl (fun w => h) fun w₁ hk₁ => ?_
  exact hn' σ ρ w₁ a A' rfl (Ren.le_refl _) (.of fun _ _ => rfl) (H.keeps hk₁) ha

theorem loops_mv {l : List Nat} {f : OpsF} : True := trivial
/-- Operations in the text's order. -/
theorem inorder_real (hJ : ∀ σ, Judge P main (J σ)) (hX : Fine P X) (hF : FRel F) (C : CallOk P X main J F call) (hnt : nt ≤ 512) {ops : Array Oper} : ∀ {l : List Nat} {f : OpsF} {tm : Tm} {m : Mem} {df : Df} {r : Ss}, turnsF P nt ops (l.map fun i => (0, i, 0)) = some f → f call tm m df = some r → Wf m →
    F m r.mem ∧ ∃ c, ∀ k, Runs P J nt ⟨tm, m, df⟩ r (.inRegion ops l :: k) (· = .inRegion ops [] :: k) c
  | [], f, tm, m, df, r, h, hf, hw => by
    unfold turnsF at h
    simp only [List.map_nil] at h
    cases h
    unfold endF at hf
    simp only [Option.some.injEq] at hf
    subst hf
    exact ⟨hF.refl _, 0, fun k => Runs.here rfl⟩
  | i :: l, f, tm, m, df, r, h, hf, hw => by
    simp only [List.map_cons] at h
    obtain ⟨rest, hr, ht⟩ := turns_cons h
    obtain ⟨tm', m', df', hone, hf', _⟩ := turn_inv ht hf
    obtain ⟨g1, c, g2⟩ := one_real hJ hX hF C hnt hw hone
    obtain ⟨h1, c', h2⟩ := inorder_real hJ hX hF C hnt hr hf' ((hF.mv g1).wf hw)
    refine ⟨hF.trans g1 h1, c' + c, fun k => ?_⟩
    refine Runs.trans (st₁ := ⟨tm', m', df'⟩) (B := (· = .inRegion ops l :: k)) ?_ (hF.mv g1) fun A' hA => by subst hA; exact h2 k
    refine ⟨fun {E w₀ σ ρ w b a cs n} hk H ha hn' => ?_⟩
    exact g2 hk H ha fun σ' ρ' w' a' hle hold H' ha' => hn' σ' ρ' w' a' _ rfl hle hold H' ha'
theorem sched_mixed (hm : P.follows .mixedOrders = true) (ops : Array Oper) (t : Nat) : Region.schedule (P.follows .mixedOrders) ops t = Region.linearise .any ops t := by
  unfold Region.schedule; rw [hm]; rfl
theorem region_real (hJ : ∀ σ, Judge P main (J σ)) (hX : Fine P X) (hF : FRel F) (C : CallOk P X main J F call) (hnt : nt ≤ 512) {id : Nat} {ops : Array Oper} {draw : Bool} {n : Nat} {f : Go.AM.F} (h : comp P nt (n + 1) (.region id ops draw) = some f) {st st' : Ss} {e : Exit} (hf : f call st = some (e, st')) (hw : Wf st.mem) :
    e = .normal ∧ F st.mem st'.mem ∧ ∃ c, ∀ k, Runs P J nt st st' (.code (.region id ops draw) :: k) (· = k) c := by
  unfold comp at h
  simp only [] at h
  have hreg : ∀ o : OpsF, regF o call st = some (e, st') → e = .normal ∧ o call st.tm st.mem st.df = some st' := by
    intro o ho
    unfold regF at ho
    split at ho
    · rename_i s hs
      simp only [Option.some.injEq, Prod.mk.injEq] at ho
      obtain ⟨rfl, rfl⟩ := ho
      exact ⟨rfl, hs⟩
    · cases ho
  have hend : ∀ k, Runs P J nt st' st' (.inRegion ops [] :: k) (· = k) 1 := fun k => Runs.move hJ stepG_region_end
  cases draw with
  | false =>
    simp only [Bool.false_eq_true, if_false] at h
    split at h
    · rename_i o ho
      cases h
      obtain ⟨h1, h2⟩ := hreg o hf
      obtain ⟨g1, c, g2⟩ := inorder_real hJ hX hF C hnt ho h2 hw
      refine ⟨h1, g1, (1 + c) + 1, fun k => Runs.trans (Runs.move hJ stepG_region) (Mv.refl _) fun A hA => ?_⟩
      subst hA
      exact Runs.trans (g2 k) (hF.mv g1) fun A hA => by subst hA; exact hend k
    · cases h
  | true =>
    simp only [if_true] at h
    split at h
    · rename_i T hT
      split at h
      · rename_i o ho
        cases h
        obtain ⟨h1, h2⟩ := hreg o hf
        unfold drawT at hT
        simp only [] at hT
        split at hT
        · rename_i hc
          simp only [Option.some.injEq] at hT
          subst hT
          simp only [Bool.and_eq_true] at hc
          have R := regOk_of hnt hc.1.1.1 hc.1.1.2 hc.1.2 hc.2
          have hex : Ex ops nt st' st.tm (SS ops (Region.before ops) []) st.tm := fun t ht => ⟨fun i hi => (by
            rcases hi with ⟨_, hi⟩ | hi
            · exact absurd hi (Nat.not_lt_zero _)
            · cases hi), fun _ => rfl⟩
          obtain ⟨g1, c, g2⟩ := stage_real (N₀ := st.mem.next) hJ hX hF C R (rest := heavies ops) (pre := []) (tmI := fun _ => st.tm) (vI := fun _ => undef) rfl ho h2 hw hex (Nat.le_refl _)
            ⟨fun i _ hi => absurd hi (Nat.not_lt_zero _), fun i _ hi => absurd hi (Nat.not_lt_zero _), fun i j _ _ hi => absurd hi (Nat.not_lt_zero _)⟩
          refine ⟨h1, g1, 1 + (c + ops.size) + 1, fun k => ?_⟩
          refine ⟨fun {E w₀ σ ρ w b a cs n} hk H ha hn' => ?_⟩
          rw [← Nat.add_assoc]
          refine (hJ σ).step rfl fun w₁ hk₁ => ?_
          have H₁ := H.keeps hk₁
          have hKat := Keeps.at ((permOf ρ st.mem).or E) w₁ (w₁.drawn + 1)
          refine ⟨_, { w₁ with drawn := w₁.drawn + 1 }, #[], (permOf ρ st.mem).or E, ⟨stepG_region_draw, ⟨rfl, rfl, rfl, Nat.le_refl _, fun _ _ => rfl, fun _ _ _ _ => rfl, fun _ _ _ => rfl, fun _ _ _ _ => rfl⟩, fun e he => by simp at he, Within.refl _ _, rfl, fun h => ⟨h.rd, h.wr, h.ob⟩⟩, ?_⟩
          rw [sched_mixed hX.mixed]
          have hL := order_sound R.ord (w₁.tape w₁.drawn (.order b.fn id))
          have hlen : (Region.linearise .any ops (w₁.tape w₁.drawn (.order b.fn id))).length ≤ ops.size := by
            have h3 := hL.nodup.length_le_of_subset (fun x hx => List.mem_range.2 (hL.lt x hx))
            simpa using h3
          have H₂ := H₁.keeps hKat
          have := g2 (l := Region.linearise .any ops (w₁.tape w₁.drawn (.order b.fn id))) (D := fun _ => False) (n := n + 1) (k := k) (cs := cs) hk hL (by simp) (fun _ _ h => h) H₂ ⟨ha.size, fun t ht i hi => hi.elim, fun t ht _ => ha.tm t ht⟩ ha.df (fun i _ hi => absurd hi (Nat.not_lt_zero _))
            (fun σ' ρ' w' a' hle hold H' ha' => by
              refine (hend k).go hk H' ha' fun σ₂ ρ₂ w₂ a₂ todo ht hle₂ hold₂ H₂ ha₂ => ?_
              exact hn' σ₂ ρ₂ w₂ a₂ todo ht (Ren.le_trans hle hle₂) (OldR.trans (hF.mv g1) (.of hold) hold₂) H₂ ha₂)
          exact (hJ σ).le (by omega) this
        · cases hT
      · cases h
    · cases h
end
end Go.AM
/-
  CODE, on: sequences, branches, blocks, loops, labels.
-/
set_option linter.unusedVariables false
set_option linter.unusedSimpArgs false
namespace Go.AM
open Go Go.Conc

theorem out_seq {e : Exit} (he : e ≠ .normal) {x : Code} {k todo : List Item} (h : Out e (.code x :: k) todo) : Out e k todo := by
  cases e with
  | normal => exact absurd rfl he
  | ret => exact h
  | exit id => exact h
  | goto l => exact h
  | _ => exact h.elim
section
variable {P : Program} {X : Ext} {main : Bool} {J : JT} {F : Mem → Mem → Prop} {nt : Nat} {call : CallT}
theorem stepG_inScope {b : Frame} {a : Act} {k : List Item} {cs : List Frame} {w : World} {c : Code} : stepG P main (G (b.at a (.inScope c :: k)) cs) w = .go (G (b.at a k) cs) w := by simp [G, stepG, stepG.exec, Frame.at]
theorem stepG_scope {b : Frame} {a : Act} {k : List Item} {cs : List Frame} {w : World} {c : Code} : stepG P main (G (b.at a (.code (.scope c) :: k)) cs) w = .go (G (b.at a (.code c :: .inScope c :: k)) cs) w := by simp [G, stepG, stepG.exec, Frame.at]
theorem stepG_goto {b : Frame} {a : Act} {k k' : List Item} {cs : List Frame} {w : World} {l : Nat} (h : gotoIn l k = some k') : stepG P main (G (b.at a (.code (.goto l) :: k)) cs) w = .go (G (b.at a k') cs) w := by simp [G, stepG, stepG.exec, Frame.at, h]

def CodeOk (P : Program) (J : JT) (F : Mem → Mem → Prop) (nt : Nat) (call : CallT) (c : Code) (f : Go.AM.F) : Prop :=
  ∀ {st st' : Ss} {e : Exit}, f call st = some (e, st') → Wf st.mem → F st.mem st'.mem ∧ ∃ n, ∀ k, Runs P J nt st st' (.code c :: k) (Out e k) n
theorem Runs.same {st st' : Ss} {A : List Item} {B C : List Item → Prop} {c : Nat} (h : Runs P J nt st st' A B c) (e : ∀ x, B x ↔ C x) : Runs P J nt st st' A C c := h.weaken fun x hx => (e x).1 hx

theorem loop_real (hJ : ∀ σ, Judge P main (J σ)) (hF : FRel F) {body : Code} {fb : Go.AM.F} (hb : CodeOk P J F nt call body fb) : ∀ (N : Nat) {st st' : Ss} {e : Exit}, loopN fb call N st = some (e, st') → Wf st.mem →
    F st.mem st'.mem ∧ ∃ n, ∀ k, Runs P J nt st st' (.code body :: .inLoop body :: k) (Out e k) n
  | 0, st, st', e, h, _ => by cases h
  | N + 1, st, st', e, h, hw => by
    unfold loopN at h
    split at h
    · rename_i st1 h1
      obtain ⟨g1, n, g2⟩ := hb h1 hw
      obtain ⟨g3, m, g4⟩ := loop_real hJ hF hb N h ((hF.mv g1).wf hw)
      refine ⟨hF.trans g1 g3, (m + 1) + n, fun k => Runs.trans (g2 _) (hF.mv g1) fun A hA => ?_⟩
      have hA' : A = .inLoop body :: k := hA
      subst hA'
      exact Runs.trans (Runs.move hJ stepG_inLoop) (Mv.refl _) fun A hA => by subst hA; exact g4 k
    · rename_i r hne
      obtain ⟨g1, n, g2⟩ := hb h hw
      refine ⟨g1, n, fun k => (g2 (.inLoop body :: k)).weaken fun A hA => ?_⟩
      cases e with
      | normal => exact absurd h (hne st')
      | ret => exact hA
      | exit id => exact hA
      | goto l => exact hA
      | _ => exact hA.elim

theorem scope_real (hJ : ∀ σ, Judge P main (J σ)) (hF : FRel F) {body : Code} {has : Nat → Bool} {restF : Nat → Option Go.AM.F} (hrest : ∀ l c f, findLabel body l = some c → restF l = some f → CodeOk P J F nt call c f) (hhas : ∀ l, has l = (findLabel body l).isSome) :
    ∀ (N : Nat) {c : Code} {fb : Go.AM.F}, CodeOk P J F nt call c fb → ∀ {st st' : Ss} {e : Exit}, scopeN has restF call N fb st = some (e, st') → Wf st.mem →
      F st.mem st'.mem ∧ ∃ n, ∀ k, Runs P J nt st st' (.code c :: .inScope body :: k) (Out e k) n
  | 0, c, fb, _, st, st', e, h, _ => by cases h
  | N + 1, c, fb, hc, st, st', e, h, hw => by
    unfold scopeN at h
    split at h
    · rename_i l st1 h1
      obtain ⟨g1, n, g2⟩ := hc h1 hw
      cases hfl : findLabel body l with
      | some c2 =>
        rw [hhas, hfl] at h
        simp only [Option.isSome_some, if_true] at h
        split at h
        · rename_i f2 hf2
          obtain ⟨g3, m, g4⟩ := scope_real hJ hF hrest hhas N (hrest l c2 f2 hfl hf2) h ((hF.mv g1).wf hw)
          refine ⟨hF.trans g1 g3, (m + 1) + n, fun k => Runs.trans (g2 _) (hF.mv g1) fun A hA => ?_⟩
          obtain ⟨k', rfl, hg⟩ := hA
          have hg' : gotoIn l k' = some (.code c2 :: .inScope body :: k) := by
            rw [hg]
            show gotoIn l (.inScope body :: k) = _
            simp only [gotoIn, hfl]
          exact Runs.trans (Runs.move hJ (stepG_goto hg')) (Mv.refl _) fun A hA => by subst hA; exact g4 k
        · cases h
      | none =>
        rw [hhas, hfl] at h
        simp only [Option.isSome_none, Bool.false_eq_true, if_false, Option.some.injEq, Prod.mk.injEq] at h
        obtain ⟨rfl, rfl⟩ := h
        refine ⟨g1, n, fun k => (g2 _).weaken fun A hA => ?_⟩
        obtain ⟨k', rfl, hg⟩ := hA
        refine ⟨k', rfl, ?_⟩
        rw [hg]
        simp only [gotoIn, hfl]
    · rename_i r hne
      obtain ⟨g1, n, g2⟩ := hc h hw
      cases e with
      | normal =>
        refine ⟨g1, 1 + n, fun k => Runs.trans (g2 _) (hF.mv g1) fun A hA => ?_⟩
        have hA' : A = .inScope body :: k := hA
        subst hA'
        exact Runs.move hJ stepG_inScope
      | ret => exact ⟨g1, n, fun k => (g2 _).weaken fun A hA => hA⟩
      | exit id => exact ⟨g1, n, fun k => (g2 _).weaken fun A hA => hA⟩
      | goto l => exact absurd h (hne l st')
      | _ => exact ⟨g1, n, fun k => (g2 _).weaken fun A hA => hA.elim⟩

theorem code_real (hJ : ∀ σ, Judge P main (J σ)) (hX : Fine P X) (hF : FRel F) (C : CallOk P X main J F call) (hnt : nt ≤ 512) : ∀ (n : Nat) (c : Code) (f : Go.AM.F), comp P nt n c = some f → CodeOk P J F nt call c f := by
  intro n
  induction n with
  | zero => intro c f h; unfold comp at h; cases h
  | succ n ih =>
    intro c f h st st' e hf hw
    cases c with
    | skip =>
      unfold comp at h; cases h
      unfold skipF at hf
      simp only [Option.some.injEq, Prod.mk.injEq] at hf
      obtain ⟨rfl, rfl⟩ := hf
      exact ⟨hF.refl _, 1, fun k => Runs.move hJ stepG_skip⟩
    | label l =>
      unfold comp at h; cases h
      unfold skipF at hf
      simp only [Option.some.injEq, Prod.mk.injEq] at hf
      obtain ⟨rfl, rfl⟩ := hf
      exact ⟨hF.refl _, 1, fun k => Runs.move hJ stepG_label⟩
    | seq a b =>
      unfold comp at h
      simp only [] at h
      split at h
      · rename_i fa ha
        split at h
        · rename_i fb hb
          cases h
          unfold seqF at hf
          split at hf
          · rename_i st1 h1
            obtain ⟨g1, n1, g2⟩ := ih a fa ha h1 hw
            obtain ⟨g3, n2, g4⟩ := ih b fb hb hf ((hF.mv g1).wf hw)
            refine ⟨hF.trans g1 g3, (n2 + n1) + 1, fun k => Runs.trans (Runs.move hJ stepG_seq) (Mv.refl _) fun A hA => ?_⟩
            subst hA
            exact Runs.trans (g2 _) (hF.mv g1) fun A hA => by
              have hA' : A = .code b :: k := hA
              subst hA'; exact g4 k
          · rename_i hne
            obtain ⟨g1, n1, g2⟩ := ih a fa ha hf hw
            refine ⟨g1, n1 + 1, fun k => Runs.trans (Runs.move hJ stepG_seq) (Mv.refl _) fun A hA => ?_⟩
            subst hA
            exact (g2 _).weaken fun A hA => out_seq (fun he => hne st' (by rw [hf, he])) hA
        · cases h
      · cases h
    | cond x a b =>
      unfold comp at h
      simp only [] at h
      split at h
      · rename_i hgx
        split at h
        · rename_i fa ha
          split at h
          · rename_i fb hb
            have hcf := opdC_spec h
            cases hcf
            unfold condF at hf
            have hstep : ∀ (t : Bool), evT st.tm x = .bool t → ∀ k, Runs P J nt st st (.code (.cond x a b) :: k) (· = .code (if t then a else b) :: k) 1 := by
              intro t ht k
              refine ⟨fun {E w₀ σ ρ w bb aa cs n} hk H haa hn' => ?_⟩
              have hv := eval_rel haa.tm H hgx
              rw [ht] at hv
              have hev : aa.eval x = .bool t := (vrel_same rfl).1 hv
              refine idle_real (hJ σ) rfl (fun w => stepG_cond hev) fun w₁ hk₁ => ?_
              exact hn' σ ρ w₁ aa _ rfl (Ren.le_refl _) (.of fun _ _ => rfl) (H.keeps hk₁) haa
            split at hf
            · rename_i ht
              obtain ⟨g1, n1, g2⟩ := ih a fa ha hf hw
              exact ⟨g1, n1 + 1, fun k => Runs.trans (hstep true ht k) (Mv.refl _) fun A hA => by subst hA; exact g2 k⟩
            · rename_i ht
              obtain ⟨g1, n1, g2⟩ := ih b fb hb hf hw
              exact ⟨g1, n1 + 1, fun k => Runs.trans (hstep false ht k) (Mv.refl _) fun A hA => by subst hA; exact g2 k⟩
            · cases hf
          · cases h
        · cases h
      · cases h
    | block id b =>
      unfold comp at h
      simp only [] at h
      split at h
      · rename_i fb hb
        cases h
        unfold blockF at hf
        split at hf
        · rename_i j st1 h1
          obtain ⟨g1, n1, g2⟩ := ih b fb hb h1 hw
          split at hf
          · rename_i hj
            simp only [Option.some.injEq, Prod.mk.injEq] at hf
            obtain ⟨rfl, rfl⟩ := hf
            have hj' := Nat.eq_of_beq_eq_true hj
            subst hj'
            refine ⟨g1, (1 + n1) + 1, fun k => Runs.trans (Runs.move hJ stepG_block) (Mv.refl _) fun A hA => ?_⟩
            subst hA
            refine Runs.trans (g2 _) (hF.mv g1) fun A hA => ?_
            obtain ⟨k', rfl, he⟩ := hA
            have he' : exitTo j k' = some k := by rw [he]; simp [exitTo]
            exact Runs.move hJ (stepG_exit he')
          · rename_i hj
            simp only [Option.some.injEq, Prod.mk.injEq] at hf
            obtain ⟨rfl, rfl⟩ := hf
            refine ⟨g1, n1 + 1, fun k => Runs.trans (Runs.move hJ stepG_block) (Mv.refl _) fun A hA => ?_⟩
            subst hA
            refine (g2 _).weaken fun A hA => ?_
            obtain ⟨k', rfl, he⟩ := hA
            refine ⟨k', rfl, ?_⟩
            rw [he]
            have hne : (id == j) = false := by
              rw [beq_d] at hj
              simp only [decide_eq_true_eq] at hj
              simpa using fun h => hj h.symm
            simp only [exitTo, hne, Bool.false_eq_true, if_false]
        · rename_i hne
          obtain ⟨g1, n1, g2⟩ := ih b fb hb hf hw
          cases e with
          | normal =>
            refine ⟨g1, (1 + n1) + 1, fun k => Runs.trans (Runs.move hJ stepG_block) (Mv.refl _) fun A hA => ?_⟩
            subst hA
            refine Runs.trans (g2 _) (hF.mv g1) fun A hA => ?_
            have hA' : A = .inBlock id :: k := hA
            subst hA'
            exact Runs.move hJ stepG_inBlock
          | exit j => exact absurd hf (hne j st')
          | ret => exact ⟨g1, n1 + 1, fun k => Runs.trans (Runs.move hJ stepG_block) (Mv.refl _) fun A hA => by subst hA; exact (g2 _).weaken fun A hA => hA⟩
          | goto l => exact ⟨g1, n1 + 1, fun k => Runs.trans (Runs.move hJ stepG_block) (Mv.refl _) fun A hA => by subst hA; exact (g2 _).weaken fun A hA => hA⟩
          | _ => exact ⟨g1, n1 + 1, fun k => Runs.trans (Runs.move hJ stepG_block) (Mv.refl _) fun A hA => by subst hA; exact (g2 _).weaken fun A hA => hA.elim⟩
      · cases h
    | loop b =>
      unfold comp at h
      simp only [] at h
      split at h
      · rename_i fb hb
        cases h
        unfold loopF at hf
        obtain ⟨g1, n1, g2⟩ := loop_real hJ hF (ih b fb hb) _ hf hw
        exact ⟨g1, n1 + 1, fun k => Runs.trans (Runs.move hJ stepG_loop) (Mv.refl _) fun A hA => by subst hA; exact g2 k⟩
      · cases h
    | exit id =>
      unfold comp at h; cases h
      unfold exitF at hf
      simp only [Option.some.injEq, Prod.mk.injEq] at hf
      obtain ⟨rfl, rfl⟩ := hf
      exact ⟨hF.refl _, 0, fun k => Runs.here ⟨k, rfl, rfl⟩⟩
    | ret =>
      unfold comp at h; cases h
      unfold exitF at hf
      simp only [Option.some.injEq, Prod.mk.injEq] at hf
      obtain ⟨rfl, rfl⟩ := hf
      exact ⟨hF.refl _, 0, fun k => Runs.here ⟨k, rfl⟩⟩
    | goto l =>
      unfold comp at h; cases h
      unfold exitF at hf
      simp only [Option.some.injEq, Prod.mk.injEq] at hf
      obtain ⟨rfl, rfl⟩ := hf
      exact ⟨hF.refl _, 0, fun k => Runs.here ⟨k, rfl, rfl⟩⟩
    | scope b =>
      unfold comp at h
      simp only [] at h
      split at h
      · rename_i fb hb
        cases h
        obtain ⟨g1, n1, g2⟩ := scope_real hJ hF (body := b) (has := fun l => (findLabel b l).isSome) (restF := fun l => (findLabel b l).bind (comp P nt n)) (fun l c2 f2 hfl hf2 => ih c2 f2 (by rw [hfl] at hf2; exact hf2)) (fun l => rfl) _ (ih b fb hb) hf hw
        exact ⟨g1, n1 + 1, fun k => Runs.trans (Runs.move hJ stepG_scope) (Mv.refl _) fun A hA => by subst hA; exact g2 k⟩
      · cases h
    | region id ops draw =>
      obtain ⟨rfl, g1, c, g2⟩ := region_real hJ hX hF C hnt h hf hw
      exact ⟨g1, c, fun k => (g2 k).weaken fun A hA => hA⟩
    | _ => unfold comp at h; cases h
end
end Go.AM
/-
  FUNCTIONS: entry, deferred calls, results.
-/
set_option linter.unusedVariables false
set_option linter.unusedSimpArgs false
namespace Go.AM
open Go Go.Conc

/-! ### the variables at the entry -/
theorem hdV_getD (l : List Value) : hdV l = l.getD 0 undef := by cases l <;> rfl
theorem tlV_getD (l : List Value) (i : Nat) : (tlV l).getD i undef = l.getD (i + 1) undef := by cases l <;> simp [tlV]
theorem tl8_getD (l : List Value) (i : Nat) : (tl8 l).getD i undef = l.getD (i + 8) undef := by
  unfold tl8
  simp only [tlV_getD]
theorem rowV_get (l : List Value) {i : Nat} (hi : i < 8) : (rowV l).get i = l.getD i undef := by
  match i, hi with
  | 0, _ => exact hdV_getD l
  | 1, _ => show hdV (tlV l) = _; rw [hdV_getD, tlV_getD]
  | 2, _ => show hdV (tlV (tlV l)) = _; rw [hdV_getD, tlV_getD, tlV_getD]
  | 3, _ => show hdV (tlV (tlV (tlV l))) = _; rw [hdV_getD, tlV_getD, tlV_getD, tlV_getD]
  | 4, _ => show hdV (tlV (tlV (tlV (tlV l)))) = _; rw [hdV_getD, tlV_getD, tlV_getD, tlV_getD, tlV_getD]
  | 5, _ => show hdV (tlV (tlV (tlV (tlV (tlV l))))) = _; rw [hdV_getD, tlV_getD, tlV_getD, tlV_getD, tlV_getD, tlV_getD]
  | 6, _ => show hdV (tlV (tlV (tlV (tlV (tlV (tlV l)))))) = _; rw [hdV_getD, tlV_getD, tlV_getD, tlV_getD, tlV_getD, tlV_getD, tlV_getD]
  | 7, _ => show hdV (tlV (tlV (tlV (tlV (tlV (tlV (tlV l))))))) = _; rw [hdV_getD, tlV_getD, tlV_getD, tlV_getD, tlV_getD, tlV_getD, tlV_getD, tlV_getD]
theorem tmOf_get {l : List Value} {tm : Tm} (h : tmOf l = some tm) {t : Nat} (ht : t < 512) : tget t tm = l.getD t undef := by
  have hlen : ∀ i, l.getD (i + 16) undef = undef := fun i => by
    rw [show i + 16 = (i + 8) + 8 by omega, ← tl8_getD, ← tl8_getD]
    unfold tmOf at h
    split at h
    · rename_i e; rw [e]; rfl
    · cases h
  unfold tmOf at h
  split at h
  · simp only [Option.some.injEq] at h
    subst h
    have d (x k : Nat) : dig x k = x / k % 8 := rfl
    have e8 : Nat.mod t 8 = t % 8 := rfl
    have hrow0 : ∀ i, row0.get i = undef := fun i => N8.get_all _ _
    have hrows0 : ∀ i, rows0.get i = row0 := fun i => N8.get_all _ _
    unfold tget
    by_cases h1 : t < 64
    · rw [show dig t 64 = 0 by rw [d]; omega]
      show ((⟨rowV l, rowV (tl8 l), row0, row0, row0, row0, row0, row0⟩ : N8 (N8 Value)).get (dig t 8)).get (Nat.mod t 8) = _
      by_cases h2 : t < 8
      · rw [show dig t 8 = 0 by rw [d]; omega]
        show (rowV l).get (Nat.mod t 8) = _
        rw [rowV_get _ (by omega), e8, Nat.mod_eq_of_lt h2]
      · by_cases h3 : t < 16
        · rw [show dig t 8 = 1 by rw [d]; omega]
          show (rowV (tl8 l)).get (Nat.mod t 8) = _
          rw [rowV_get _ (by omega), tl8_getD, e8]
          congr 1
          omega
        · have hu := hlen (t - 16)
          rw [show t - 16 + 16 = t by omega] at hu
          rw [hu]
          have : ∀ i, 2 ≤ i → i < 8 → (⟨rowV l, rowV (tl8 l), row0, row0, row0, row0, row0, row0⟩ : N8 (N8 Value)).get i = row0 := fun i h1 h2 => by
            match i, h1, h2 with
            | 2, _, _ | 3, _, _ | 4, _, _ | 5, _, _ | 6, _, _ | 7, _, _ => rfl
          rw [this _ (by rw [d]; omega) (by rw [d]; omega)]
          exact hrow0 _
    · have hu := hlen (t - 16)
      rw [show t - 16 + 16 = t by omega] at hu
      rw [hu]
      have : ∀ (x : N8 (N8 Value)) i, 1 ≤ i → i < 8 → (⟨x, rows0, rows0, rows0, rows0, rows0, rows0, rows0⟩ : Tm).get i = rows0 := fun x i h1 h2 => by
        match i, h1, h2 with
        | 1, _, _ | 2, _, _ | 3, _, _ | 4, _, _ | 5, _, _ | 6, _, _ | 7, _, _ => rfl
      rw [this _ _ (by rw [d]; omega) (by rw [d]; omega), hrows0]
      exact hrow0 _
  · cases h

section
variable {P : Program} {X : Ext} {main : Bool} {J : JT} {F : Mem → Mem → Prop} {nt : Nat} {call : CallT} {E : Perm} {w₀ : World} {σ : GSt} {ρ : Ren} {m m' : Mem} {w : World}

theorem entry_rel {args : List Value} {args' : Array Value} {tm : Tm} (h : tmOf args = some tm) (hr : Rel2 (VRel ρ) args args'.toList) (hl : args.length ≤ nt) (hnt : nt ≤ 512) : ARel nt ρ tm [] { tmps := args' ++ Array.replicate (nt - args'.size) undef, defers := [] } := by
  have hlen : args'.size = args.length := by have := hr.length; simpa using this.symm
  refine ⟨by simp; omega, fun t ht => ?_, trivial⟩
  rw [tmOf_get h (by omega)]
  have e : (args' ++ Array.replicate (nt - args'.size) undef).getD t undef = args'.toList.getD t undef := by
    rw [Array.getD_eq_getD_getElem?, List.getD_eq_getElem?_getD, Array.getElem?_append]
    split
    · simp
    · rename_i h1
      have h2 : args'.toList[t]? = none := List.getElem?_eq_none (by simpa using h1)
      rw [h2, Array.getElem?_replicate]
      split <;> rfl
  rw [e]
  exact hr.getD vrel_undef t

/-! ### results -/
theorem resList_okS (hs : Sim ρ m w) {N : Nat} {tm : Tm} {a : Act} {df : Df} (ha : ARel nt ρ tm df a) : ∀ {rs : List ResultVar} {vs : List Value}, resF P nt m tm rs = some vs → ∀ {Q : List Value → World → Prop}, (∀ vs', Rel2 (VRel ρ) vs vs' → Q vs' w) →
    okS P (permOf ρ m) N (rs.mapM fun r => match r with | .tmp t => (pure (a.tmps.getD t undef) : Sem Value) | .cell x t => do loadVar t (← asAddr (a.tmps.getD x undef))) Q w
  | [], vs, h, Q, hq => by
    simp only [resF, Option.some.injEq] at h
    subst h
    rw [List.mapM_nil]
    exact hq [] trivial
  | .tmp t :: rs, vs, h, Q, hq => by
    unfold resF at h
    split at h
    · rename_i ht
      rw [blt_d, decide_eq_true_eq] at ht
      split at h
      · rename_i vs1 h1
        cases h
        rw [List.mapM_cons, okS_bind]
        show okS P (permOf ρ m) N _ Q w
        rw [okS_bind]
        exact resList_okS hs ha h1 fun vs' hvs => hq _ ⟨ha.tm t ht, hvs⟩
      · cases h
    · cases h
  | .cell x t :: rs, vs, h, Q, hq => by
    unfold resF at h
    split at h
    · rename_i hx
      rw [blt_d, decide_eq_true_eq] at hx
      split at h
      · rename_i v vs1 hv h1
        cases h
        have hp := ha.tm x hx
        obtain ⟨bb, oo, hbo⟩ : ∃ b o, tget x tm = .pointer (some ⟨b, o, none⟩) := by
          unfold loadA at hv
          split at hv
          · rename_i h2; exact ⟨_, _, h2⟩
          · cases hv
        rw [List.mapM_cons, okS_bind]
        have hload := loadA_sound (P := P) (N := N) hs hp hv (Q := fun v' w' => okS P (permOf ρ m) N (rs.mapM fun r => match r with | .tmp t => (pure (a.tmps.getD t undef) : Sem Value) | .cell x t => do loadVar t (← asAddr (a.tmps.getD x undef))) (fun vs' w₂ => Q (v' :: vs') w₂) w')
          fun v' hvr => resList_okS hs ha h1 fun vs' hvs => hq (v' :: vs') ⟨hvr, hvs⟩
        rw [hbo] at hp
        obtain ⟨pl, hpl, _, e⟩ := vrel_ptr.1 hp
        rw [e] at hload
        simp only []
        rw [e]
        have hload' : okS P (permOf ρ m) N (loadVar t ⟨pl.c, pl.d + oo, none⟩) (fun v' w' => okS P (permOf ρ m) N (rs.mapM fun r => match r with | .tmp t => (pure (a.tmps.getD t undef) : Sem Value) | .cell x t => do loadVar t (← asAddr (a.tmps.getD x undef))) (fun vs' w₂ => Q (v' :: vs') w₂) w') w := hload
        show okS P (permOf ρ m) N (loadVar t ⟨pl.c, pl.d + oo, none⟩) _ w
        refine okS_mono hload' fun v' w' h3 => ?_
        rw [okS_bind]
        exact h3
      · cases h
    · cases h
theorem results_okS (hs : Sim ρ m w) {N : Nat} {tm : Tm} {a : Act} {df : Df} (ha : ARel nt ρ tm df a) {fn : Func} {v : Value} (h : resultsF P nt fn.results.toList tm m = some v) {Q : Value → World → Prop} (hq : ∀ v', VRel ρ v v' → Q v' w) :
    okS P (permOf ρ m) N (results fn a.tmps) Q w := by
  unfold results
  rw [okS_bind, Array.mapM_eq_mapM_toList]
  show okS P (permOf ρ m) N (_ <$> _) _ w
  rw [map_eq_pure_bind, okS_bind]
  unfold resultsF at h
  have fin : ∀ {vs : List Value}, resF P nt m tm fn.results.toList = some vs → v = (match vs with | [x] => x | l => .tuple l.toArray) → okS P (permOf ρ m) N (fn.results.toList.mapM fun r => match r with | .tmp t => (pure (a.tmps.getD t undef) : Sem Value) | .cell x t => do loadVar t (← asAddr (a.tmps.getD x undef)))
      (fun vs' w' => okS P (permOf ρ m) N (pure vs'.toArray) (fun vs₂ w₂ => okS P (permOf ρ m) N (pure (if h : vs₂.size = 1 then vs₂[0] else .tuple vs₂)) Q w₂) w') w := by
    intro vs hvs hv
    refine resList_okS hs ha hvs fun vs' hr => ?_
    show Q (if h : vs'.toArray.size = 1 then vs'.toArray[0] else .tuple vs'.toArray) w
    refine hq _ ?_
    rw [hv]
    match vs, vs', hr with
    | [], [], _ => exact vrel_tuple.2 ⟨_, rfl, trivial⟩
    | [x], [x'], hr => exact hr.1
    | x :: y :: l, x' :: y' :: l', hr =>
      rw [dif_neg (by simp)]
      exact vrel_tuple.2 ⟨_, rfl, hr⟩
  split at h
  · rename_i u hu
    cases h
    exact fin hu rfl
  · rename_i vs hne hvs
    cases h
    refine fin hvs ?_
    split
    · rename_i x; exact absurd rfl (hne x)
    · rfl
  · cases h

/-! ### the way out -/
theorem stepG_unwind_enterC {b : Frame} {a : Act} {todo : List Item} {cs : List Frame} {ds : List Deferred} {f : FuncId} {fn : Func} {args cap : Array Value} {d : Deferred} (hd : a.defers = d :: ds) (hdt : d = { target := .fn (.func f) cap, args := args }) (hf : P.funcs[f]? = some fn) (hname : (fn.name == "runtime.NumGoroutine") = false) (hb : fn.body.isSome = true) :
    stepG P main (G { b.at a todo with mode := .returning } cs) w = .go (G (Frame.enter P f (args ++ cap) .deferred) ({ b.at ⟨a.tmps, ds⟩ todo with mode := .returning } :: cs)) w #[] := by
  have h1 : ¬ fn.name = "runtime.NumGoroutine" := by simpa using hname
  have h2 : ¬ fn.body = none := by cases hx : fn.body <;> simp_all
  subst hdt
  simp [G, stepG, unwind, callDeferred, Frame.at, hd, invoke, callFunc, hf, h1, h2, GStep.after, seen_none]
/-- The frame has no deferred call left: its results go to whoever called. -/
theorem stepG_leaveC {b : Frame} {a : Act} {todo : List Item} {cs : List Frame} {fn : Func} {c : Frame} {v : Value} {w' : World} (hn : b.kind = .normal ∨ (b.kind = .deferred ∧ c.mode = .returning)) (hd : a.defers = []) (hf : P.funcs[b.fn]? = some fn) (hr : (results fn a.tmps).run P w = .ok v w') :
    stepG P main (G { b.at a todo with mode := .returning } (c :: cs)) w = .go (G (if b.kind = .normal then c.finish v else c) cs) w' (seen P b.fn ((results fn a.tmps).events P w #[])) := by
  rcases hn with hn | ⟨hn, hm⟩
  · simp [G, stepG, unwind, doReturn, Frame.at, hn, hd, hf, hr, GStep.after]
  · simp [G, stepG, unwind, doReturn, Frame.at, hn, hd, hf, hr, GStep.after, hm]

theorem defers_real (hJ : ∀ σ, Judge P main (J σ)) (hX : Fine P X) (hF : FRel F) (C : CallOk P X main J F call) : ∀ {df : Df} {m m' : Mem}, defersN P X call df m = some m' → Wf m → F m m' ∧ ∃ c,
    ∀ {E : Perm} {w₀ : World} {σ : GSt} {ρ : Ren} {w : World} {b : Frame} {a : Act} {todo : List Item} {cs : List Frame} {n : Nat} {tm : Tm}, Hold P E w₀ σ ρ m w → ARel nt ρ tm df a →
      (∀ σ' ρ' w' , ρ.le ρ' → OldR m ρ ρ' → Hold P E w₀ σ' ρ' m' w' → ARel nt ρ' tm [] ⟨a.tmps, []⟩ → J σ' n ((permOf ρ' m').or E) (G { b.at ⟨a.tmps, []⟩ todo with mode := .returning } cs) w') →
      J σ (n + c) ((permOf ρ m).or E) (G { b.at a todo with mode := .returning } cs) w
  | [], m, m', h, hw => by
    simp only [defersN, Option.some.injEq] at h
    subst h
    refine ⟨hF.refl _, 0, fun {E w₀ σ ρ w b a todo cs n tm} H ha hn => ?_⟩
    have hd : a.defers = [] := by
      have := ha.df
      cases h : a.defers with
      | nil => rfl
      | cons x l => rw [h] at this; exact this.elim
    have e : a = ⟨a.tmps, []⟩ := by cases a; simp only at hd; subst hd; rfl
    have := hn σ ρ w (Ren.le_refl _) (.of fun _ _ => rfl) H (by rw [← e]; exact ha)
    rw [← e] at this
    exact this
  | (f, args) :: ds, m, m', h, hw => by
    unfold defersN at h
    split at h
    · rename_i hb
      simp only [Bool.and_eq_true, Bool.not_eq_true', Bool.or_eq_false_iff] at hb
      obtain ⟨hb, hb1, hb2⟩ := hb
      split at h
      · rename_i v m1 hcall
        obtain ⟨g1, _, g2⟩ := C f args m v m1 hw hcall
        obtain ⟨c, g2⟩ := g2 hb
        obtain ⟨h1, c', h2⟩ := defers_real hJ hX hF C h ((hF.mv g1).wf hw)
        obtain ⟨fn, hf, hbd⟩ := bodied_spec hb
        refine ⟨hF.trans g1 h1, c' + c + 1, fun {E w₀ σ ρ w b a todo cs n tm} H ha hn => ?_⟩
        obtain ⟨d, ds', hds⟩ : ∃ d ds', a.defers = d :: ds' := by
          have := ha.df
          cases h : a.defers with
          | nil => rw [h] at this; exact this.elim
          | cons x l => exact ⟨x, l, rfl⟩
        have hdr := ha.df
        rw [hds] at hdr
        obtain ⟨⟨cap, hdt, hda⟩, hrest⟩ := hdr
        have hd' : d = { target := .fn (.func f) cap, args := d.args } := by cases d; simp only at hdt; subst hdt; rfl
        refine idle_real (hJ σ) rfl (fun w => stepG_unwind_enterC hds hd' hf (hX.names f fn hf hbd) hbd) fun w₁ hk₁ => ?_
        have H₁ := H.keeps hk₁
        show J σ (n + (c' + c)) _ _ _
        rw [← Nat.add_assoc]
        refine g2 _ _ cs (n + c') .deferred H₁ hda (.inr ⟨rfl, rfl, Nat.ne_of_beq_eq_false hb1, Nat.ne_of_beq_eq_false hb2⟩) fun σ' ρ' v' w' hle hold H' hv => ?_
        rw [if_neg (by simp)]
        refine h2 (a := ⟨a.tmps, ds'⟩) (tm := tm) H' ⟨ha.size, fun t ht => (ha.tm t ht).ren hle, hrest.mono fun _ _ x => x.ren hle⟩ fun σ₂ ρ₂ w₂ hle₂ hold₂ H₂ ha₂ => ?_
        exact hn σ₂ ρ₂ w₂ (Ren.le_trans hle hle₂) (hold.trans (hF.mv g1) hold₂) H₂ ha₂
      · cases h
    · cases h

theorem stepG_retC {b : Frame} {a : Act} {k : List Item} {cs : List Frame} : stepG P main (G (b.at a (.code .ret :: k)) cs) w = .go (G { b.at a (.code .ret :: k) with mode := .returning } cs) w #[] := stepG_ret'
/-- A function with a body. -/
theorem body_real (hJ : ∀ σ, Judge P main (J σ)) (hX : Fine P X) (hF : FRel F) (C : CallOk P X main J F call) {f : Nat} {fn : Func} {c : Code} (hf : P.funcs[f]? = some fn) (hc : fn.body = some c) {n : Nat} {b : Go.AM.F} (hnt : fn.ntmps ≤ 512) (hb : comp P fn.ntmps n c = some b)
    {args : List Value} {m m' : Mem} {v : Value} (hw : Wf m) (h : bodyF P X fn.ntmps fn.results.toList b call args m = some (v, m')) : F m m' ∧ ∃ c,
      ∀ {E : Perm} {w₀ : World} {σ : GSt} {ρ : Ren} {w : World} (args' : Array Value) (fr : Frame) (cs : List Frame) (n : Nat) (kind : CallKind),
      Hold P E w₀ σ ρ m w → Rel2 (VRel ρ) args args'.toList → (kind = .normal ∨ (kind = .deferred ∧ fr.mode = .returning)) →
      (∀ σ' ρ' v' w', ρ.le ρ' → OldR m ρ ρ' → Hold P E w₀ σ' ρ' m' w' → VRel ρ' v v' → J σ' n ((permOf ρ' m').or E) (G (if kind = .normal then fr.finish v' else fr) cs) w') →
      J σ (n + c) ((permOf ρ m).or E) (G (Frame.enter P f args' kind) (fr :: cs)) w := by
  unfold bodyF at h
  split at h
  · cases h
  · rename_i tm htm
    split at htm
    · rename_i hlen
      rw [ble_d, decide_eq_true_eq] at hlen
      split at h
      · cases h
      · rename_i st hst
        split at h
        · cases h
        · rename_i m2 hdf
          split at h
          · rename_i v2 hres
            cases h
            unfold endsF at hst
            obtain ⟨e, hbe, he⟩ : ∃ e, b call ⟨tm, m, []⟩ = some (e, st) ∧ (e = .normal ∨ e = .ret) := by
              split at hst
              · rename_i s hs; cases hst; exact ⟨_, hs, .inl rfl⟩
              · rename_i s hs; cases hst; exact ⟨_, hs, .inr rfl⟩
              · cases hst
            obtain ⟨g1, c1, g2⟩ := code_real hJ hX hF C hnt n c b hb hbe hw
            have hw1 := (hF.mv g1).wf hw
            obtain ⟨g3, c2, g4⟩ := defers_real (nt := fn.ntmps) hJ hX hF C hdf hw1
            refine ⟨hF.trans g1 g3, ((1 + c2) + 1) + c1, fun {E w₀ σ ρ w} args' fr cs n kind H hr hkind hn => ?_⟩
            have ha := entry_rel htm hr hlen hnt
            -- the frame
            obtain ⟨bb, hbb, hbk, hbf⟩ : ∃ bb : Frame, Frame.enter P f args' kind = bb.at { tmps := args' ++ Array.replicate (fn.ntmps - args'.size) undef, defers := [] } [.code c] ∧ bb.kind = kind ∧ bb.fn = f := by
              rcases hkind with rfl | ⟨rfl, _⟩
              · exact ⟨base f, enter_at args' hf hc, rfl, rfl⟩
              · exact ⟨baseD f, enter_atD args' hf hc, rfl, rfl⟩
            have hne : bb.kind ≠ .early := by rw [hbk]; rcases hkind with rfl | ⟨rfl, _⟩ <;> simp
            rw [hbb, ← Nat.add_assoc]
            refine (g2 []).go hne H ha fun σ' ρ' w' a' todo hout hle hold H' ha' => ?_
            -- on its way out
            have hway : (∀ w₁, Hold P E w₀ σ' ρ' st.mem w₁ → J σ' (n + (1 + c2)) ((permOf ρ' st.mem).or E) (G { bb.at a' todo with mode := .returning } (fr :: cs)) w₁) → J σ' (n + ((1 + c2) + 1)) ((permOf ρ' st.mem).or E) (G (bb.at a' todo) (fr :: cs)) w' := by
              intro hJ'
              have hstep : ∀ w, stepG P main (G (bb.at a' todo) (fr :: cs)) w = .go (G { bb.at a' todo with mode := .returning } (fr :: cs)) w #[] := by
                intro w
                rcases he with rfl | rfl
                · have e : todo = [] := hout
                  subst e
                  exact stepG_end
                · obtain ⟨k', rfl⟩ := hout
                  exact stepG_ret'
              exact idle_real (hJ σ') rfl hstep fun w₁ hk₁ => hJ' w₁ (H'.keeps hk₁)
            refine hway fun w₁ H₁ => ?_
            rw [← Nat.add_assoc]
            refine g4 (tm := st.tm) H₁ ha' fun σ₂ ρ₂ w₂ hle₂ hold₂ H₂ ha₂ => ?_
            have hold' : OldR m ρ ρ₂ := hold.trans (hF.mv g1) hold₂
            -- the results
            refine step_own hJ H₂ rfl fun w₃ H₃ => ?_
            obtain ⟨v', w₄, hrun, ⟨hv, hw₄⟩, _, hev⟩ := okS_sound (P := P) (R := permOf ρ₂ m') (N := w₃.heap.size) (Q := fun v' w' => VRel ρ₂ v v' ∧ w' = w₃) (Nat.le_refl _)
              (results_okS (N := w₃.heap.size) H₃.sim (a := ⟨a'.tmps, []⟩) ha₂ hres fun v' hv => ⟨hv, rfl⟩)
            rw [hw₄] at hrun
            obtain ⟨evs, hevs, hok⟩ := hev #[]
            have hlist : ∀ e ∈ seen P bb.fn ((results fn a'.tmps).events P w₃ #[]), EvOK (permOf ρ₂ m') e := fun e hx => hok e (by have := mem_seen hx; rw [hevs] at this; simpa using this)
            refine ⟨_, ρ₂, m', w₃, _, stepG_leaveC (a := ⟨a'.tmps, []⟩) (by rw [hbk]; exact hkind) rfl (by rw [hbf]; exact hf) hrun, Left.refl H₃.sim, Chg.refl .., fun e he => .inl (hlist e he), (deafBehind_ok hlist _).symm, ?_⟩
            rw [hbk]
            exact hn σ₂ ρ₂ v' w₃ (Ren.le_trans hle hle₂) hold' H₃ hv
          · cases h
    · cases htm
end
end Go.AM
/-
  CALLS: a worker's ('callW').
-/
set_option linter.unusedVariables false
set_option linter.unusedSimpArgs false
namespace Go.AM
open Go Go.Conc

section
variable {P : Program} {X : Ext} {main : Bool} {J : JT} {F : Mem → Mem → Prop}
theorem extA_fr {f : Nat} {args : List Value} {m m' : Mem} {v : Value} (h : extA X f args m = some (v, m')) : FrW m m' := by
  unfold extA at h
  split at h
  · split at h
    · simp only [Option.some.injEq, Prod.mk.injEq] at h
      obtain ⟨_, rfl⟩ := h
      exact FrW.deaf _ _
    · cases h
  · split at h
    · split at h
      · simp only [Option.some.injEq, Prod.mk.injEq] at h
        obtain ⟨_, rfl⟩ := h
        exact FrW.deaf _ _
      · cases h
    · split at h
      · split at h
        · simp only [Option.some.injEq, Prod.mk.injEq] at h
          obtain ⟨_, rfl⟩ := h
          exact FrW.refl _
        · cases h
      · split at h
        · split at h
          · simp only [Option.some.injEq, Prod.mk.injEq] at h
            obtain ⟨_, rfl⟩ := h
            exact FrW.refl _
          · cases h
        · split at h
          · split at h
            · split at h
              · split at h
                · obtain ⟨m2, hm2, he⟩ := Option.map_eq_some_iff.1 h
                  simp only [Prod.mk.injEq] at he
                  obtain ⟨_, rfl⟩ := he
                  exact (FrD.stores hm2).w
                · split at h
                  · simp only [Option.some.injEq, Prod.mk.injEq] at h
                    obtain ⟨_, rfl⟩ := h
                    exact FrW.refl _
                  · cases h
              · cases h
            · cases h
          · split at h
            · split at h
              · split at h
                · obtain ⟨m2, hm2, he⟩ := Option.map_eq_some_iff.1 h
                  simp only [Prod.mk.injEq] at he
                  obtain ⟨_, rfl⟩ := he
                  exact (FrD.stores hm2).w
                · cases h
              · cases h
            · cases h

theorem tab_ok (hJ : ∀ σ, Judge P main (J σ)) (hX : Fine P X) (hF : FRel F) {call : CallT} (C : CallOk P X main J F call) : CallOk P X main J F fun f args m => (tabOf P X f).body call args m := by
  intro f args m v m' hw h
  replace h : (tabOf P X f).body call args m = some (v, m') := h
  unfold tabOf at h
  split at h
  · rename_i fn hf
    split at h
    · rename_i c hc
      split at h
      · rename_i b hb
        split at hb
        · rename_i hnt
          rw [ble_d, decide_eq_true_eq] at hnt
          obtain ⟨g1, k, g2⟩ := body_real hJ hX hF C hf hc hnt hb hw h
          refine ⟨g1, fun hbd => ?_, fun _ => ⟨k, fun args' fr cs n kind H hr hk hn => g2 args' fr cs n kind H hr (hk.imp id fun h => ⟨h.1, h.2.1⟩) hn⟩⟩
          unfold bodied at hbd
          rw [hf] at hbd
          simp [hc] at hbd
        · cases hb
      · cases h
    · rename_i hc
      refine ⟨hF.fr (extA_fr h), fun _ => h, fun hbd => ?_⟩
      unfold bodied at hbd
      rw [hf] at hbd
      simp [hc] at hbd
  · cases h
theorem callW_ok (hJ : ∀ σ, Judge P main (J σ)) (hX : Fine P X) (hF : FRel F) : ∀ n, CallOk P X main J F (callW P X n)
  | 0 => by intro f args m v m' hw h; cases h
  | n + 1 => tab_ok hJ hX hF (callW_ok hJ hX hF n)
/-- What a worker does beside its own blocks. -/
theorem callW_fr (hX : Fine P X) {n f : Nat} {args : List Value} {m m' : Mem} {v : Value} (hw : Wf m) (h : callW P X n f args m = some (v, m')) : FrW m m' :=
  (callW_ok (main := false) (J := fun _ _ _ _ _ => True) (fun _ => ⟨fun _ => trivial, fun _ _ => trivial⟩) hX frel_frw n f args m v m' hw h).1
end
end Go.AM
/-
  THE TRACE while goroutines, each with its own leave to touch ('Perm'), are at work, have said their release, or only leave: 'TI', and how it grows.
-/
set_option linter.unusedVariables false
set_option linter.unusedSimpArgs false
namespace Go.AM
open Go Go.Conc
open Go.ConcN (RelBy fork_knows)
open Go.ConcR (stA smA)

/-- Where a goroutine stands: at work; its release said (operation r); only leaving. -/
inductive WS where
  | work (R : Perm)
  | rel (R : Perm) (r : Nat)
  | old
def WS.perm? : WS → Option Perm
  | .work R => some R
  | .rel R _ => some R
  | .old => none

def inR (R : Perm) : Loc → Prop
  | .cell a => a.spot = none ∧ R.rd a.block a.off
  | .obj r => R.ob r
  | _ => False
def inW (R : Perm) : Loc → Prop
  | .cell a => a.spot = none ∧ R.wr a.block a.off
  | .obj r => R.ob r
  | _ => False
/-- A group's own cells. -/
def shl (sh : Nat → Prop) : Loc → Prop
  | .cell a => sh a.block ∧ a.spot = none ∧ a.off ≤ 1
  | _ => False
structure Dis (R S : Perm) : Prop where
  cell : ∀ b o, R.wr b o → ¬ S.rd b o
  obj : ∀ b, R.ob b → ¬ S.ob b
/-- The leaves lie apart. -/
structure Lay (sh : Nat → Prop) (D : Nat → WS) (size : Nat) (w : World) : Prop where
  low : ∀ k R, k < size → (D k).perm? = some R → Low R w
  dis : ∀ j k R S, j ≠ k → j < size → k < size → (D j).perm? = some R → (D k).perm? = some S → Dis R S
  shy : ∀ k R, k < size → (D k).perm? = some R → ∀ b o, R.rd b o → sh b → ¬ o ≤ 1
  sh : ∀ b, sh b → b < w.heap.size

structure TI (Wg : Nat) (sh : Nat → Prop) (D : Nat → WS) (size N : Nat) (t : Trace) : Prop where
  nr : ∀ said, ¬ Race said t
  gs : ∀ op ∈ t, op.g < size
  low : ∀ i a, touchAt t i = some a → a.loc.low N
  knW : ∀ k R, k < size → D k = .work R → ∀ i a, touchAt t i = some a → inW R a.loc → Knows t k i
  knR : ∀ k R, k < size → D k = .work R → ∀ i a, touchAt t i = some a → inR R a.loc → a.write = true → Knows t k i
  glob : ∀ i a, touchAt t i = some a → Knows t 0 i ∨ (∃ k R, t.g? i = some k ∧ 0 < k ∧ k < size ∧ D k = .work R) ∨ (∃ k R r, t.g? i = some k ∧ 0 < k ∧ k < size ∧ D k = .rel R r ∧ i ≤ r) ∨ (shl sh a.loc ∧ a.kind = .atomic)
  shp : ∀ i a, touchAt t i = some a → shl sh a.loc → a.kind = .atomic ∨ (Knows t 0 i ∧ (a.kind = .plain → ∀ k, k < size → D k ≠ .old → Knows t k i))
  relb : ∀ k R r, k < size → D k = .rel R r → RelBy (stA Wg) t k r
  norel : ∀ a, NoRelease a t
  cnt : ∀ i k, t.g? i = some k → 0 < k → D k = .old → t.counts i → Knows t 0 i
  main : ∃ R, D 0 = .work R

theorem inW_within {R R' : Perm} {N : Nat} (h : Within R R' N) {l : Loc} (hl : l.low N) (hw : inW R' l) : inW R l := by
  cases l with
  | cell a => exact ⟨hw.1, (h.wr _ _ hw.2).elim id fun hn => absurd (show a.block < N from hl) (by omega)⟩
  | obj r => exact (h.ob _ hw).elim id fun hn => absurd (show r < N from hl) (by omega)
  | _ => exact hw.elim
theorem inR_within {R R' : Perm} {N : Nat} (h : Within R R' N) {l : Loc} (hl : l.low N) (hw : inR R' l) : inR R l := by
  cases l with
  | cell a => exact ⟨hw.1, (h.rd _ _ hw.2).elim id fun hn => absurd (show a.block < N from hl) (by omega)⟩
  | obj r => exact (h.ob _ hw).elim id fun hn => absurd (show r < N from hl) (by omega)
  | _ => exact hw.elim
theorem inW_dis {R S : Perm} (h : Dis R S) {l : Loc} (h1 : inW R l) : ¬ inR S l := by
  intro h2
  cases l with
  | cell a => exact h.cell _ _ h1.2 h2.2
  | obj r => exact h.obj _ h1 h2
  | _ => exact h1.elim
theorem inW_inR {R : Perm} (h : ∀ b o, R.wr b o → R.rd b o) {l : Loc} (h1 : inW R l) : inR R l := by
  cases l with
  | cell a => exact ⟨h1.1, h _ _ h1.2⟩
  | obj r => exact h1
  | _ => exact h1.elim
theorem inR_shy {R : Perm} {sh : Nat → Prop} (h : ∀ b o, R.rd b o → sh b → ¬ o ≤ 1) {l : Loc} (h1 : inR R l) : ¬ shl sh l := by
  intro h2
  cases l with
  | cell a => exact h _ _ h1.2 h2.1 h2.2.2
  | obj r => exact h2.elim
  | _ => exact h2.elim

section
variable {Wg : Nat} {sh : Nat → Prop} {D D' : Nat → WS} {size N N' : Nat} {t u : Trace} {k : Nat} {w : World}

/-- Operations of goroutine k's. -/
theorem TI.app (h : TI Wg sh D size N t) (L : Lay sh D size w) (hk : k < size) (hN : N ≤ N')
    (hne : ∀ j, j ≠ k → D' j = D j) (hD : D' k = D k ∨ ∃ R R', D k = .work R ∧ D' k = .work R' ∧ Within R R' N)
    (hg : ∀ op ∈ u, op.g = k) (hl : ∀ op ∈ u, ∀ b, op.act.touch? = some b → b.loc.low N') (hr : ∀ op ∈ u, ∀ a, op.act ≠ .mark (.release a))
    (hu : ∀ op ∈ u, ∀ b, op.act.touch? = some b → (∃ R, D k = .work R ∧ inR R b.loc ∧ (b.write = true → inW R b.loc)) ∨ (D k ≠ .old ∧ shl sh b.loc ∧ b.kind ≠ .plain ∧ (b.kind = .said → k = 0)))
    (hrel : ∀ R r, D k = .rel R r → RelBy (stA Wg) (t ++ u) k r) : TI Wg sh D' size N' (t ++ u) := by
  have old : ∀ {i : Nat} {a : Touch}, touchAt (t ++ u) i = some a → (touchAt t i = some a ∧ i < t.size) ∨ (t.size ≤ i ∧ ∃ op ∈ u, (t ++ u)[i]? = some op ∧ op.act.touch? = some a) := by
    intro i a ha
    obtain ⟨x, hx, hxa⟩ := touch_of ha
    rcases getElem?_append_cases hx with ⟨hi, hx'⟩ | ⟨hi, hxu⟩
    · exact .inl ⟨by rw [touchAt_of hx']; exact hxa, hi⟩
    · exact .inr ⟨hi, x, hxu, hx, hxa⟩
  have own : ∀ {i : Nat} {op : MemOp}, (t ++ u)[i]? = some op → op ∈ u → Knows (t ++ u) k i := by
    intro i op hi hop
    have := knows_own hi
    rwa [hg op hop] at this
  have hold : ∀ j, D' j = .old ↔ D j = .old := by
    intro j
    by_cases hj : j = k
    · subst hj
      rcases hD with e | ⟨R, R', e1, e2, _⟩
      · rw [e]
      · rw [e1, e2]; simp
    · rw [hne j hj]
  have hwork : ∀ j R', D' j = .work R' → ∃ R, D j = .work R ∧ Within R R' N := by
    intro j R' hj'
    by_cases hj : j = k
    · subst hj
      rcases hD with e | ⟨R, R₁, e1, e2, e3⟩
      · rw [e] at hj'; exact ⟨R', hj', Within.refl _ _⟩
      · rw [e2] at hj'; cases hj'; exact ⟨R, e1, e3⟩
    · rw [hne j hj] at hj'; exact ⟨R', hj', Within.refl _ _⟩
  have hrel' : ∀ j R r, D' j = .rel R r → D j = .rel R r := by
    intro j R r hj'
    by_cases hj : j = k
    · subst hj
      rcases hD with e | ⟨R, R₁, e1, e2, e3⟩
      · rw [e] at hj'; exact hj'
      · rw [e2] at hj'; cases hj'
    · rw [hne j hj] at hj'; exact hj'
  refine ⟨fun said => noRace_append (h.nr said) hg fun i a ha op hop b hb hc => ?_, fun op hop => ?_, fun i a ha => ?_, fun j S hj hjS i a ha hw => ?_, fun j S hj hjS i a ha hw hwr => ?_, fun i a ha => ?_, fun i a ha hs => ?_, fun j R r hj hjr => ?_, fun a => (h.norel a).app fun op hop => hr op hop a, fun i j hi hj hjo hc => ?_, ?_⟩
  · rcases hu op hop b hb with ⟨R, hR, h1, h2⟩ | ⟨hno, h1, h2, h3⟩
    · cases hbw : b.write with
      | true => exact h.knW k R hk hR i a ha (by rw [hc.1]; exact h2 hbw)
      | false => exact h.knR k R hk hR i a ha (by rw [hc.1]; exact h1) (hc.2.2.1.resolve_right (by simp [hbw]))
    · rcases h.shp i a ha (by rw [hc.1]; exact h1) with e | ⟨e1, e2⟩
      · rcases hc.2.2.2 with x | x | ⟨_, x, _⟩
        · rw [e] at x; cases x
        · exact absurd x h2
        · rw [e] at x; cases x
      · rcases hc.2.2.2 with x | x | ⟨_, _, x⟩
        · exact e2 x k hk hno
        · exact absurd x h2
        · rw [h3 x]; exact e1
  · rcases Array.mem_append.1 hop with h1 | h1
    · exact h.gs op h1
    · rw [hg op h1]; exact hk
  · rcases old ha with ⟨ha', _⟩ | ⟨_, op, hop, hi, hb⟩
    · exact Loc.low_mono hN (h.low i a ha')
    · exact hl op hop a hb
  · obtain ⟨S₀, hS, hin⟩ := hwork j S hjS
    rcases old ha with ⟨ha', _⟩ | ⟨_, op, hop, hi, hb⟩
    · exact (h.knW j S₀ hj hS i a ha' (inW_within hin (h.low i a ha') hw)).app u
    · by_cases hjk : j = k
      · subst hjk; exact own hi hop
      · rw [hne j hjk] at hjS
        have hS' : (D j).perm? = some S := by rw [hjS]; rfl
        rcases hu op hop a hb with ⟨R, hR, h1, h2⟩ | ⟨_, h1, _, _⟩
        · exact absurd h1 (inW_dis (L.dis j k S R hjk hj hk hS' (by rw [hR]; rfl)) hw)
        · exact absurd h1 (inR_shy (L.shy j S hj hS') (inW_inR (L.low j S hj hS').wr hw))
  · obtain ⟨S₀, hS, hin⟩ := hwork j S hjS
    rcases old ha with ⟨ha', _⟩ | ⟨_, op, hop, hi, hb⟩
    · exact (h.knR j S₀ hj hS i a ha' (inR_within hin (h.low i a ha') hw) hwr).app u
    · by_cases hjk : j = k
      · subst hjk; exact own hi hop
      · rw [hne j hjk] at hjS
        have hS' : (D j).perm? = some S := by rw [hjS]; rfl
        rcases hu op hop a hb with ⟨R, hR, h1, h2⟩ | ⟨_, h1, _, _⟩
        · exact absurd hw (inW_dis (L.dis k j R S (Ne.symm hjk) hk hj (by rw [hR]; rfl) hS') (h2 hwr))
        · exact absurd h1 (inR_shy (L.shy j S hj hS') hw)
  · rcases old ha with ⟨ha', hi⟩ | ⟨_, op, hop, hi, hb⟩
    · rcases h.glob i a ha' with h1 | ⟨j, R, h1, h2, h3, h4⟩ | ⟨j, R, r, h1, h2, h3, h4, h5⟩ | h1
      · exact .inl (h1.app u)
      · refine .inr (.inl ?_)
        by_cases hj : j = k
        · subst hj
          rcases hD with e | ⟨R₁, R', e1, e2, _⟩
          · exact ⟨j, R, by rw [g?_old hi]; exact h1, h2, h3, by rw [e]; exact h4⟩
          · exact ⟨j, R', by rw [g?_old hi]; exact h1, h2, h3, e2⟩
        · exact ⟨j, R, by rw [g?_old hi]; exact h1, h2, h3, by rw [hne j hj]; exact h4⟩
      · refine .inr (.inr (.inl ⟨j, R, r, by rw [g?_old hi]; exact h1, h2, h3, ?_, h5⟩))
        by_cases hj : j = k
        · subst hj
          rcases hD with e | ⟨R₁, R', e1, e2, _⟩
          · rw [e]; exact h4
          · rw [h4] at e1; cases e1
        · rw [hne j hj]; exact h4
      · exact .inr (.inr (.inr h1))
    · rcases Nat.eq_zero_or_pos k with h0 | hpos
      · subst h0; exact .inl (own hi hop)
      · have hgi : (t ++ u).g? i = some k := by simp [Trace.g?, hi, hg op hop]
        rcases hu op hop a hb with ⟨R, hR, h1, h2⟩ | ⟨hno, h1, h2, h3⟩
        · rcases hD with e | ⟨R₁, R', e1, e2, _⟩
          · exact .inr (.inl ⟨k, R, hgi, hpos, hk, by rw [e]; exact hR⟩)
          · exact .inr (.inl ⟨k, R', hgi, hpos, hk, e2⟩)
        · refine .inr (.inr (.inr ⟨h1, ?_⟩))
          cases hkd : a.kind with
          | plain => exact absurd hkd h2
          | atomic => rfl
          | said => have := h3 hkd; omega
  · rcases old ha with ⟨ha', hi⟩ | ⟨_, op, hop, hi, hb⟩
    · rcases h.shp i a ha' hs with e | ⟨e1, e2⟩
      · exact .inl e
      · exact .inr ⟨e1.app u, fun hp j hj hjo => (e2 hp j hj (fun hx => hjo ((hold j).2 hx))).app u⟩
    · rcases hu op hop a hb with ⟨R, hR, h1, h2⟩ | ⟨hno, h1, h2, h3⟩
      · exact absurd hs (inR_shy (L.shy k R hk (by rw [hR]; rfl)) h1)
      · cases hkd : a.kind with
        | plain => exact absurd hkd h2
        | atomic => exact .inl rfl
        | said =>
          refine .inr ⟨?_, fun hx => by cases hx⟩
          have h0 := h3 hkd
          subst h0
          exact own hi hop
  · have hjr' := hrel' j R r hjr
    by_cases hjk : j = k
    · subst hjk; exact hrel R r hjr'
    · exact (h.relb j R r hj hjr').appOther hg (Ne.symm hjk)
  · have hjo' := (hold j).1 hjo
    have hlt : i < t.size ∨ t.size ≤ i := Nat.lt_or_ge i t.size
    rcases hlt with hlt | hge
    · exact (h.cnt i j (by rw [← g?_old (u := u) hlt]; exact hi) hj hjo' ((counts_old hlt).1 hc)).app u
    · exfalso
      obtain ⟨x, hx, _⟩ := hc
      obtain ⟨op, ho, hox⟩ := touch_of hx
      have hgi : op.g = j := by simp only [Trace.g?, ho, Option.map_some, Option.some.injEq] at hi; exact hi
      rcases getElem?_append_cases ho with ⟨h1, _⟩ | ⟨_, hou⟩
      · omega
      · have hjk : j = k := hgi.symm.trans (hg op hou)
        subst hjk
        rcases hu op hou x hox with ⟨R, hR, _⟩ | ⟨hno, _⟩
        · rw [hR] at hjo'; cases hjo'
        · exact hno hjo'
  · obtain ⟨R, hR⟩ := h.main
    by_cases h0 : (0 : Nat) = k
    · subst h0
      rcases hD with e | ⟨_, R', _, e2, _⟩
      · exact ⟨R, by rw [e]; exact hR⟩
      · exact ⟨R', e2⟩
    · exact ⟨R, by rw [hne 0 h0]; exact hR⟩
end
end Go.AM
/-
  THE TRACE, on: a group is begun; a goroutine is started; one says its release; all are joined.
-/
set_option linter.unusedVariables false
set_option linter.unusedSimpArgs false
namespace Go.AM
open Go Go.Conc
open Go.ConcN (RelBy fork_knows upd upd_same upd_ne)
open Go.ConcR (stA smA)

theorem inW_mono {R S : Perm} (h : ∀ b o, R.wr b o → S.wr b o) (ho : ∀ b, R.ob b → S.ob b) {l : Loc} (hw : inW R l) : inW S l := by
  cases l with
  | cell a => exact ⟨hw.1, h _ _ hw.2⟩
  | obj r => exact ho _ hw
  | _ => exact hw.elim
theorem inR_mono {R S : Perm} (h : ∀ b o, R.rd b o → S.rd b o) (ho : ∀ b, R.ob b → S.ob b) {l : Loc} (hw : inR R l) : inR S l := by
  cases l with
  | cell a => exact ⟨hw.1, h _ _ hw.2⟩
  | obj r => exact ho _ hw
  | _ => exact hw.elim
/-- One leave within another. -/
structure SubP (R S : Perm) : Prop where
  rd : ∀ b o, R.rd b o → S.rd b o
  wr : ∀ b o, R.wr b o → S.wr b o
  ob : ∀ b, R.ob b → S.ob b

section
variable {Wg Wg' : Nat} {sh : Nat → Prop} {D : Nat → WS} {size N : Nat} {t : Trace} {k : Nat} {w : World}

/-- A GROUP IS BEGUN: its cells are taken out of the starter's leave. -/
theorem TI.begin (h : TI Wg sh D size N t) {R R₁ : Perm} (hD : D 0 = .work R) (hold : ∀ j, 0 < j → j < size → D j = .old) (hs : SubP R₁ R) (h0 : R.wr Wg' 0) (h1 : R.wr Wg' 1) (hsz : 0 < size) :
    TI Wg' (fun b => sh b ∨ b = Wg') (upd D 0 (.work R₁)) size N t := by
  have hn : ∀ j, 0 < j → upd D 0 (.work R₁) j = D j := fun j hj => upd_ne D _ (by omega)
  refine ⟨h.nr, h.gs, h.low, fun j S hj hjS i a ha hw => ?_, fun j S hj hjS i a ha hw hwr => ?_, fun i a ha => ?_, fun i a ha hsl => ?_, fun j S r hj hjr => ?_, h.norel, fun i j hi hj hjo hc => h.cnt i j hi hj (by rw [← hn j hj]; exact hjo) hc, ⟨R₁, upd_same ..⟩⟩
  · rcases Nat.eq_zero_or_pos j with rfl | hp
    · rw [upd_same] at hjS; cases hjS
      exact h.knW 0 R hj hD i a ha (inW_mono hs.wr hs.ob hw)
    · rw [hn j hp, hold j hp hj] at hjS; cases hjS
  · rcases Nat.eq_zero_or_pos j with rfl | hp
    · rw [upd_same] at hjS; cases hjS
      exact h.knR 0 R hj hD i a ha (inR_mono hs.rd hs.ob hw) hwr
    · rw [hn j hp, hold j hp hj] at hjS; cases hjS
  · rcases h.glob i a ha with h2 | ⟨j, S, _, h3, h4, h5⟩ | ⟨j, S, r, _, h3, h4, h5, _⟩ | h2
    · exact .inl h2
    · rw [hold j h3 h4] at h5; cases h5
    · rw [hold j h3 h4] at h5; cases h5
    · refine .inr (.inr (.inr ⟨?_, h2.2⟩))
      have := h2.1
      cases hl : a.loc with
      | cell x => rw [hl] at this; exact ⟨.inl this.1, this.2⟩
      | _ => rw [hl] at this; exact this.elim
  · have key : Knows t 0 i → a.kind = .atomic ∨ (Knows t 0 i ∧ (a.kind = .plain → ∀ k, k < size → upd D 0 (.work R₁) k ≠ .old → Knows t k i)) := fun hk =>
      .inr ⟨hk, fun _ j hj hjo => by
        rcases Nat.eq_zero_or_pos j with rfl | hp
        · exact hk
        · rw [hn j hp] at hjo; exact absurd (hold j hp hj) hjo⟩
    cases hl : a.loc with
    | cell x =>
      rw [hl] at hsl
      obtain ⟨h2 | h2, h3, h4⟩ := hsl
      · rcases h.shp i a ha (by rw [hl]; exact ⟨h2, h3, h4⟩) with e | ⟨e, _⟩
        · exact .inl e
        · exact key e
      · refine key (h.knW 0 R hsz hD i a ha ?_)
        rw [hl]
        refine ⟨h3, ?_⟩
        rw [h2]
        rcases (show x.off = 0 ∨ x.off = 1 by omega) with e | e <;> rw [e] <;> assumption
    | _ => rw [hl] at hsl; exact hsl.elim
  · rcases Nat.eq_zero_or_pos j with rfl | hp
    · rw [upd_same] at hjr; cases hjr
    · rw [hn j hp, hold j hp hj] at hjr; cases hjr

/-- A GOROUTINE IS STARTED. -/
theorem TI.fork (h : TI Wg sh D size N t) {R R₁ Rc : Perm} (hD : D 0 = .work R) (h1 : SubP R₁ R) (hc : SubP Rc R) (hsz : 0 < size) {x y : MemOp} (hx : x.g = 0 ∧ x.act = .go size) (hy : y.g = size ∧ y.act = .start) (h0 : Deaf t 0 = 0) (hk : Deaf t size = 0) :
    TI Wg sh (upd (upd D 0 (.work R₁)) size (.work Rc)) (size + 1) N (t ++ #[x, y]) := by
  have hnt : ∀ op ∈ #[x, y], ∀ b, op.act.touch? = some b → False := by
    intro op hop b hb
    simp only [List.mem_toArray, List.mem_cons, List.not_mem_nil, or_false] at hop
    rcases hop with rfl | rfl
    · rw [hx.2] at hb; cases hb
    · rw [hy.2] at hb; cases hb
  have old : ∀ {i : Nat} {a : Touch}, touchAt (t ++ #[x, y]) i = some a → touchAt t i = some a ∧ i < t.size := by
    intro i a ha
    obtain ⟨z, hz, hza⟩ := touch_of ha
    rcases getElem?_append_cases hz with ⟨hi, hz'⟩ | ⟨_, hzu⟩
    · exact ⟨by rw [touchAt_of hz']; exact hza, hi⟩
    · exact (hnt z hzu a hza).elim
  have hn : ∀ j, 0 < j → j < size → upd (upd D 0 (.work R₁)) size (.work Rc) j = D j := fun j h1 h2 => by rw [upd_ne _ _ (by omega), upd_ne _ _ (by omega)]
  have hz : upd (upd D 0 (.work R₁)) size (.work Rc) 0 = .work R₁ := by rw [upd_ne _ _ (by omega), upd_same]
  have hq : upd (upd D 0 (.work R₁)) size (.work Rc) size = .work Rc := upd_same ..
  have three : ∀ j, j < size + 1 → j = 0 ∨ (0 < j ∧ j < size) ∨ j = size := fun j hj => by omega
  have kn : ∀ {i : Nat}, Knows t 0 i → Knows (t ++ #[x, y]) size i := fun hk0 => fork_knows hx hy h0 hk hk0
  refine ⟨fun said => ?_, fun op hop => ?_, fun i a ha => h.low i a (old ha).1, fun j S hj hjS i a ha hw => ?_, fun j S hj hjS i a ha hw hwr => ?_, fun i a ha => ?_, fun i a ha hsl => ?_, fun j S r hj hjr => ?_, fun a => (h.norel a).app fun op hop => ?_, fun i j hi hj hjo hcn => ?_, ⟨R₁, hz⟩⟩
  · have e : t ++ #[x, y] = (t ++ #[x]) ++ #[y] := by apply Array.ext'; simp
    rw [e]
    refine noRace_append (g := size) (noRace_append (g := 0) (h.nr said) (fun op hop => by simp at hop; rw [hop]; exact hx.1) (fun i a _ op hop b hb _ => (hnt op (by simp at hop ⊢; exact .inl hop) b hb).elim))
      (fun op hop => by simp at hop; rw [hop]; exact hy.1) (fun i a _ op hop b hb _ => (hnt op (by simp at hop ⊢; exact .inr hop) b hb).elim)
  · rcases Array.mem_append.1 hop with h2 | h2
    · exact Nat.lt_succ_of_lt (h.gs op h2)
    · simp only [List.mem_toArray, List.mem_cons, List.not_mem_nil, or_false] at h2
      rcases h2 with rfl | rfl
      · rw [hx.1]; omega
      · rw [hy.1]; omega
  · obtain ⟨ha', _⟩ := old ha
    rcases three j hj with rfl | ⟨g1, g2⟩ | rfl
    · rw [hz] at hjS; cases hjS
      exact (h.knW 0 R hsz hD i a ha' (inW_mono h1.wr h1.ob hw)).app _
    · rw [hn j g1 g2] at hjS
      exact (h.knW j S g2 hjS i a ha' hw).app _
    · rw [hq] at hjS; cases hjS
      exact kn (h.knW 0 R hsz hD i a ha' (inW_mono hc.wr hc.ob hw))
  · obtain ⟨ha', _⟩ := old ha
    rcases three j hj with rfl | ⟨g1, g2⟩ | rfl
    · rw [hz] at hjS; cases hjS
      exact (h.knR 0 R hsz hD i a ha' (inR_mono h1.rd h1.ob hw) hwr).app _
    · rw [hn j g1 g2] at hjS
      exact (h.knR j S g2 hjS i a ha' hw hwr).app _
    · rw [hq] at hjS; cases hjS
      exact kn (h.knR 0 R hsz hD i a ha' (inR_mono hc.rd hc.ob hw) hwr)
  · obtain ⟨ha', hi⟩ := old ha
    rcases h.glob i a ha' with h2 | ⟨j, S, h2, h3, h4, h5⟩ | ⟨j, S, r, h2, h3, h4, h5, h6⟩ | h2
    · exact .inl (h2.app _)
    · exact .inr (.inl ⟨j, S, by rw [g?_old hi]; exact h2, h3, by omega, by rw [hn j h3 h4]; exact h5⟩)
    · exact .inr (.inr (.inl ⟨j, S, r, by rw [g?_old hi]; exact h2, h3, by omega, by rw [hn j h3 h4]; exact h5, h6⟩))
    · exact .inr (.inr (.inr h2))
  · obtain ⟨ha', hi⟩ := old ha
    rcases h.shp i a ha' hsl with e | ⟨e1, e2⟩
    · exact .inl e
    · refine .inr ⟨e1.app _, fun hp j hj hjo => ?_⟩
      rcases three j hj with rfl | ⟨g1, g2⟩ | rfl
      · exact e1.app _
      · exact (e2 hp j g2 (by rw [← hn j g1 g2]; exact hjo)).app _
      · exact kn e1
  · rcases three j hj with rfl | ⟨g1, g2⟩ | rfl
    · rw [hz] at hjr; cases hjr
    · rw [hn j g1 g2] at hjr
      have hb := h.relb j S r g2 hjr
      refine hb.app fun i hi hgi => ?_
      rintro ⟨b, hb', _⟩
      obtain ⟨op, ho, hob⟩ := touch_of hb'
      rcases getElem?_append_cases ho with ⟨hlt, _⟩ | ⟨_, hou⟩
      · omega
      · exact hnt op hou b hob
    · rw [hq] at hjr; cases hjr
  · simp only [List.mem_toArray, List.mem_cons, List.not_mem_nil, or_false] at hop
    rcases hop with rfl | rfl
    · rw [hx.2]; simp
    · rw [hy.2]; simp
  · have hlt : i < t.size := by
      obtain ⟨b, hb, _⟩ := hcn
      exact (old hb).2
    have hjs : j < size := by
      obtain ⟨op, ho, hog⟩ := Option.map_eq_some_iff.1 (show ((t ++ #[x, y])[i]?).map (·.g) = some j from hi)
      rw [getElem?_append_old hlt] at ho
      rw [← hog]
      exact h.gs op (mem_of_getElem? ho)
    rw [hn j hj hjs] at hjo
    exact (h.cnt i j (by rw [← g?_old (u := #[x, y]) hlt]; exact hi) hj hjo ((counts_old hlt).1 hcn)).app _

/-- ONE HAS SAID ITS RELEASE, at r: it is the last that it did. -/
theorem TI.released (h : TI Wg sh D size N t) {R : Perm} (hk : k < size) (hpos : 0 < k) (hD : D k = .work R) {r : Nat} (hr : RelBy (stA Wg) t k r) (hl : t.size ≤ r + 1) :
    TI Wg sh (upd D k (.rel R r)) size N t := by
  have hn : ∀ j, j ≠ k → upd D k (.rel R r) j = D j := fun j hj => upd_ne D _ hj
  have ho : ∀ j, upd D k (.rel R r) j = .old → D j = .old := fun j hj => by
    by_cases e : j = k
    · subst e; rw [upd_same] at hj; cases hj
    · rw [hn j e] at hj; exact hj
  refine ⟨h.nr, h.gs, h.low, fun j S hj hjS i a ha hw => ?_, fun j S hj hjS i a ha hw hwr => ?_, fun i a ha => ?_, fun i a ha hsl => ?_, fun j S r' hj hjr => ?_, h.norel, fun i j hi hj hjo hc => h.cnt i j hi hj (ho j hjo) hc, ?_⟩
  · by_cases e : j = k
    · subst e; rw [upd_same] at hjS; cases hjS
    · rw [hn j e] at hjS; exact h.knW j S hj hjS i a ha hw
  · by_cases e : j = k
    · subst e; rw [upd_same] at hjS; cases hjS
    · rw [hn j e] at hjS; exact h.knR j S hj hjS i a ha hw hwr
  · rcases h.glob i a ha with h2 | ⟨j, S, h2, h3, h4, h5⟩ | ⟨j, S, r', h2, h3, h4, h5, h6⟩ | h2
    · exact .inl h2
    · by_cases e : j = k
      · subst e
        refine .inr (.inr (.inl ⟨j, R, r, h2, h3, h4, upd_same .., ?_⟩))
        obtain ⟨op, hop, _⟩ := touch_of ha
        have := lt_size_of_getElem? hop
        omega
      · exact .inr (.inl ⟨j, S, h2, h3, h4, by rw [hn j e]; exact h5⟩)
    · have e : j ≠ k := by rintro rfl; rw [hD] at h5; cases h5
      exact .inr (.inr (.inl ⟨j, S, r', h2, h3, h4, by rw [hn j e]; exact h5, h6⟩))
    · exact .inr (.inr (.inr h2))
  · rcases h.shp i a ha hsl with e | ⟨e1, e2⟩
    · exact .inl e
    · refine .inr ⟨e1, fun hp j hj hjo => e2 hp j hj fun hx => ?_⟩
      by_cases e : j = k
      · subst e; rw [hD] at hx; cases hx
      · exact hjo (by rw [hn j e]; exact hx)
  · by_cases e : j = k
    · subst e; rw [upd_same] at hjr; cases hjr; exact hr
    · rw [hn j e] at hjr; exact h.relb j S r' hj hjr
  · obtain ⟨S, hS⟩ := h.main
    exact ⟨S, by rw [hn 0 (by omega)]; exact hS⟩

/-- ALL ARE JOINED. -/
theorem TI.acquired (h : TI Wg sh D size N t) (hsz : 0 < size) (hall : ∀ j, 0 < j → j < size → (∃ R r, D j = .rel R r) ∨ D j = .old) {x : MemOp} (hx : x.g = 0 ∧ x.act = .mark (.acquire (stA Wg))) (h0 : Deaf t 0 = 0)
    {R' : Perm} (hshy : ∀ b o, R'.rd b o → sh b → ¬ o ≤ 1) (hwr : ∀ b o, R'.wr b o → R'.rd b o) : TI Wg sh (fun j => if j = 0 then .work R' else .old) size N (t ++ #[x]) := by
  have hnt : ∀ op ∈ #[x], ∀ b, op.act.touch? = some b → False := by
    intro op hop b hb
    simp only [List.mem_toArray, List.mem_cons, List.not_mem_nil, or_false] at hop
    subst hop
    rw [hx.2] at hb; cases hb
  have old : ∀ {i : Nat} {a : Touch}, touchAt (t ++ #[x]) i = some a → touchAt t i = some a ∧ i < t.size := by
    intro i a ha
    obtain ⟨z, hz, hza⟩ := touch_of ha
    rcases getElem?_append_cases hz with ⟨hi, hz'⟩ | ⟨_, hzu⟩
    · exact ⟨by rw [touchAt_of hz']; exact hza, hi⟩
    · exact (hnt z hzu a hza).elim
  have hlast : (t ++ #[x])[t.size]? = some x := by simp
  have hsub : ∀ op ∈ #[x], op.g = 0 := by intro op hop; simp at hop; rw [hop]; exact hx.1
  have edge : ∀ j R r, 0 < j → j < size → D j = .rel R r → ∀ i, t.g? i = some j → i ≤ r → Knows (t ++ #[x]) 0 i := by
    intro j R r hj hjs hjr i hi hir
    have hr : RelBy (stA Wg) (t ++ #[x]) j r := (h.relb j R r hjs hjr).appOther hsub (by omega)
    have hrt : r < t.size := lt_of_act? (h.relb j R r hjs hjr).act
    have hq : (t ++ #[x]).act? t.size = some (.mark (.acquire (stA Wg))) := by rw [act?_of hlast, hx.2]
    have hh : (t ++ #[x]).heard t.size := ⟨0, by simp [Trace.g?, hx.1], by rw [deaf_old (Nat.le_refl _)]; exact h0⟩
    have hn : NoRelease (stA Wg) (t ++ #[x]) := (h.norel _).app fun op hop => by simp at hop; rw [hop, hx.2]; simp
    have e : HappensBefore (t ++ #[x]) r t.size := .single (.inr ⟨.marked hrt (.inr hr.act) hq (fun k _ _ => hn k), hr.heard, hh⟩)
    refine ⟨t.size, x, hlast, hx.1, .inr ?_⟩
    rcases Nat.lt_or_ge i r with hlt | hge
    · exact .trans (.single (.inl ⟨hlt, j, by rw [g?_old (by omega)]; exact hi, hr.g⟩)) e
    · obtain rfl : i = r := by omega
      exact e
  have glob' : ∀ i a, touchAt (t ++ #[x]) i = some a → Knows (t ++ #[x]) 0 i ∨ (shl sh a.loc ∧ a.kind = .atomic) := by
    intro i a ha
    obtain ⟨ha', hi⟩ := old ha
    rcases h.glob i a ha' with h2 | ⟨j, S, h2, h3, h4, h5⟩ | ⟨j, S, r', h2, h3, h4, h5, h6⟩ | h2
    · exact .inl (h2.app _)
    · rcases hall j h3 h4 with ⟨_, _, e⟩ | e <;> rw [h5] at e <;> cases e
    · exact .inl (edge j S r' h3 h4 h5 i h2 h6)
    · exact .inr h2
  have D0 : ∀ j S, (if j = 0 then WS.work R' else .old) = .work S → j = 0 ∧ S = R' := by
    intro j S hj
    split at hj
    · rename_i e; cases hj; exact ⟨e, rfl⟩
    · cases hj
  refine ⟨fun said => noRace_append (h.nr said) hsub fun i a _ op hop b hb _ => (hnt op hop b hb).elim, fun op hop => ?_, fun i a ha => h.low i a (old ha).1, fun j S hj hjS i a ha hw => ?_, fun j S hj hjS i a ha hw hwr' => ?_, fun i a ha => (glob' i a ha).imp id fun e => .inr (.inr e), fun i a ha hsl => ?_, fun j S r hj hjr => ?_,
    fun a => (h.norel a).app fun op hop => (by simp at hop; rw [hop, hx.2]; simp), fun i j hi hj hjo hc => ?_, ⟨R', rfl⟩⟩
  · rcases Array.mem_append.1 hop with h2 | h2
    · exact h.gs op h2
    · rw [hsub op h2]; exact hsz
  · obtain ⟨rfl, rfl⟩ := D0 j S hjS
    exact (glob' i a ha).resolve_right fun e => inR_shy hshy (inW_inR hwr hw) e.1
  · obtain ⟨rfl, rfl⟩ := D0 j S hjS
    exact (glob' i a ha).resolve_right fun e => inR_shy hshy hw e.1
  · rcases h.shp i a (old ha).1 hsl with e | ⟨e1, _⟩
    · exact .inl e
    · refine .inr ⟨e1.app _, fun _ j hj hjo => ?_⟩
      replace hjo : ¬ (if j = 0 then WS.work R' else .old) = .old := hjo
      split at hjo
      · rename_i e; subst e; exact e1.app _
      · exact absurd rfl hjo
  · replace hjr : (if j = 0 then WS.work R' else .old) = .rel S r := hjr
    split at hjr <;> cases hjr
  · have hlt : i < t.size := by
      obtain ⟨b, hb, _⟩ := hc
      exact (old hb).2
    have hi' : t.g? i = some j := by rw [← g?_old (u := #[x]) hlt]; exact hi
    have hjs : j < size := by
      obtain ⟨op, ho, hog⟩ := Option.map_eq_some_iff.1 (show (t[i]?).map (·.g) = some j from hi')
      rw [← hog]
      exact h.gs op (mem_of_getElem? ho)
    rcases hall j hj hjs with ⟨R, r, e⟩ | e
    · refine edge j R r hj hjs e i hi' (Nat.le_of_not_lt fun hlt' => ?_)
      exact (h.relb j R r hjs e).after i hlt' hi' ((counts_old hlt).1 hc)
    · exact (h.cnt i j hi' hj e ((counts_old hlt).1 hc)).app _

/-- All is handed over, where nobody is at work beside the starter. -/
theorem TI.over (h : TI Wg sh D size N t) (hall : ∀ j, 0 < j → j < size → D j = .old) : t.HandedOver := by
  intro i g hg hne hc
  have hgs : g < size := by
    obtain ⟨op, ho, hog⟩ := Option.map_eq_some_iff.1 (show (t[i]?).map (·.g) = some g from hg)
    rw [← hog]
    exact h.gs op (mem_of_getElem? ho)
  obtain ⟨q, z, h1, h2, h3⟩ := h.cnt i g hg (by omega) (hall g (by omega) hgs) hc
  refine ⟨q, by simp [Trace.g?, h1, h2], ?_⟩
  rcases h3 with rfl | h3
  · exfalso
    have : some g = some z.g := by rw [← hg]; simp [Trace.g?, h1]
    rw [h2] at this
    cases this
    exact hne rfl
  · exact h3
end
end Go.AM
/-
  WHAT IS TO BE SHOWN of a goroutine that a group joins ('JW'; behind its release 'JD'), and of the starter ('JM').
-/
set_option linter.unusedVariables false
set_option linter.unusedSimpArgs false
namespace Go.AM
open Go Go.Conc
open Go.ConcR (stA smA KK rd wr mk)

/-- The group's two cells. -/
structure WgC (Wg : Nat) (w : World) (st sm : Int) : Prop where
  st : w.cell? ⟨Wg, 0, none⟩ = some (.int .u64 st)
  sm : w.cell? ⟨Wg, 1, none⟩ = some (.int .u32 sm)
  fz : ∀ o, o ≤ 1 → w.frozen? ⟨Wg, o, none⟩ = false
def LiveW (Wg : Nat) (w : World) : Prop := ∃ st sm, WgC Wg w st sm
def LiveS (σ : GSt) (w : World) : Prop :=
  match σ with
  | .grp g => LiveW g.Wg w
  | _ => True
def setSt (Wg : Nat) (x : Int) (w : World) : World := w.setCell (stA Wg) (.int .u64 x)
def setSm (Wg : Nat) (x : Int) (w : World) : World := w.setCell (smA Wg) (.int .u32 x)
/-- How many goroutines a group may have. -/
def VM : Nat := 4

inductive DSt where
  | k1 | d1 | d2 | d3 | d4
section
variable (P : Program) (Wg : Nat)
/-- Behind the release: on the group's cells alone, deaf; then it only leaves. -/
inductive DStep (J : DSt → Goroutine → Prop) (n : Nat) : DSt → Goroutine → World → Prop
  | quiet {s : DSt} {g g' : Goroutine} {w : World} : stepG P false g w = .go g' w #[] → J s g' → DStep J n s g w
  | k1 {g g' : Goroutine} {w : World} : stepG P false g w = .go g' w #[mk .disable] → J .d1 g' → DStep J n .k1 g w
  | d1 {g : Goroutine} {w : World} : (∀ v wt : Nat, wt ≤ 1 → v < VM → WgC Wg w (((v : Int) + 1) * KK + wt) 0 →
      ∃ g', stepG P false g w = .go g' (setSt Wg ((v : Int) * KK + wt) w) #[rd (stA Wg), wr (stA Wg)] ∧ ((v = 0 ∧ wt = 1) → J .d2 g') ∧ (¬ (v = 0 ∧ wt = 1) → QuitsD P n 1 g')) → DStep J n .d1 g w
  | d2 {g : Goroutine} {w : World} : (WgC Wg w 1 0 → ∃ g', stepG P false g w = .go g' w #[rd (stA Wg)] ∧ J .d3 g') → DStep J n .d2 g w
  | d3 {g : Goroutine} {w : World} : (WgC Wg w 1 0 → ∃ g', stepG P false g w = .go g' (setSt Wg 0 w) #[wr (stA Wg)] ∧ J .d4 g') → DStep J n .d3 g w
  | d4 {g : Goroutine} {w : World} : mayWake P g = true → (WgC Wg w 0 0 → ∃ g', stepG P false g w = .go g' (setSm Wg 1 w) (semEvents (smA Wg)) ∧ QuitsD P n 1 g') → DStep J n .d4 g w
def JD : Nat → DSt → Goroutine → Prop
  | 0, _, _ => False
  | n + 1, s, g => g.status = .running ∧ ∀ w, LiveW Wg w → DStep P Wg (JD n) n s g w
variable (p : Post)
inductive WStep (J : Perm → Goroutine → World → Prop) (n : Nat) (R : Perm) (g : Goroutine) (w : World) : Prop
  | own {R' : Perm} {g' : Goroutine} {w' : World} {es : Array Event} : Stepped P false R g w R' g' w' es → J R' g' w' → WStep J n R g w
  | rel {g' : Goroutine} : R.deaf = 0 → p.ok R w → stepG P false g w = .go g' w #[mk (.releaseMerge (stA Wg))] → JD P Wg n .k1 g' → WStep J n R g w
/-- A goroutine that the group joins. -/
def JW : Nat → Perm → Goroutine → World → Prop
  | 0, _, _, _ => False
  | n + 1, R, g, w => JW n R g w ∨ (g.status = .running ∧ ∀ w₁, Keeps R w w₁ → LiveW Wg w₁ → WStep P Wg p (JW n) n R g w₁)
end
/-- It stands whatever others do. -/
def Stable (p : Post) : Prop := ∀ R w w₁, p.ok R w → Keeps R w w₁ → p.ok R w₁

section
variable (P : Program) (Fin : Value → World → Prop)
inductive MStep (J : GSt → Perm → Goroutine → World → Prop) : GSt → Perm → Goroutine → World → Prop
  | own {σ : GSt} {R R' : Perm} {g g' : Goroutine} {w w' : World} {es : Array Event} : g.status = .running → Stepped P true R g w R' g' w' es → J σ R' g' w' → MStep J σ R g w
  | ends {R : Perm} {g : Goroutine} {w w' : World} {v : Value} {es : Array Event} : g.status = .running → stepG P true g w = .ended (.done v) w' es → (∀ e ∈ es, EvOK R e) → R.deaf = 0 → Fin v w' → MStep J .idle R g w
  | begins {R R₁ : Perm} {g : Goroutine} {w : World} {Wg : Nat} : SubP R₁ R → (∀ b o, R₁.wr b o → R₁.rd b o) → R₁.deaf = R.deaf → R.wr Wg 0 → R.wr Wg 1 → WgC Wg w 0 0 → (∀ o, o ≤ 1 → ¬ R₁.rd Wg o) → J (.grp ⟨Wg, [], .opn 0⟩) R₁ g w → MStep J .idle R g w
  | add {Wg V : Nat} {ps : List Post} {R : Perm} {g : Goroutine} {w : World} : g.status = .running → V < VM →
      (∀ v : Nat, v ≤ V → WgC Wg w ((v : Int) * KK) 0 → ∃ g', stepG P true g w = .go g' (setSt Wg (((v : Int) + 1) * KK) w) #[rd (stA Wg), wr (stA Wg)] ∧ J (.grp ⟨Wg, ps, .added V⟩) R g' w) → MStep J (.grp ⟨Wg, ps, .opn V⟩) R g w
  | said {Wg : Nat} {ps : List Post} {s : Sub} {R : Perm} {g g' : Goroutine} {w : World} {es : Array Event} : g.status = .running → stepG P true g w = .go g' w es → (∀ e ∈ es, e = mk (.read (smA Wg)) ∨ e = mk (.write (smA Wg))) →
      J (.grp ⟨Wg, ps, s⟩) R g' w → MStep J (.grp ⟨Wg, ps, s⟩) R g w
  | spawn {Wg V kc : Nat} {ps : List Post} {p : Post} {R R₁ Rc : Perm} {g g' child : Goroutine} {w : World} : g.status = .running → R.deaf = 0 → stepG P true g w = .spawn g' child w #[] →
      SubP R₁ R → SubP Rc R → (∀ b o, R₁.wr b o → R₁.rd b o) → (∀ b o, Rc.wr b o → Rc.rd b o) → R₁.deaf = 0 → Rc.deaf = 0 → Dis R₁ Rc → Dis Rc R₁ → Stable p → JW P Wg p kc Rc child w →
      J (.grp ⟨Wg, p :: ps, .opn (V + 1)⟩) R₁ g' w → MStep J (.grp ⟨Wg, ps, .added V⟩) R g w
  | load {Wg V : Nat} {ps : List Post} {R : Perm} {g : Goroutine} {w : World} : g.status = .running →
      (∀ v : Nat, v ≤ V → WgC Wg w ((v : Int) * KK) 0 → ∃ g', stepG P true g w = .go g' w #[rd (stA Wg)] ∧ (v = 0 → J (.grp ⟨Wg, ps, .fin⟩) R g' w) ∧ (v ≠ 0 → J (.grp ⟨Wg, ps, .seen v⟩) R g' w)) → MStep J (.grp ⟨Wg, ps, .opn V⟩) R g w
  | cas {Wg vs : Nat} {ps : List Post} {R : Perm} {g : Goroutine} {w : World} : g.status = .running →
      (∀ v : Nat, v ≤ vs → WgC Wg w ((v : Int) * KK) 0 → (v = vs → ∃ g', stepG P true g w = .go g' (setSt Wg ((v : Int) * KK + 1) w) #[rd (stA Wg), wr (stA Wg)] ∧ J (.grp ⟨Wg, ps, .reg⟩) R g' w) ∧
        (v ≠ vs → ∃ g', stepG P true g w = .go g' w #[rd (stA Wg)] ∧ J (.grp ⟨Wg, ps, .opn (vs - 1)⟩) R g' w)) → MStep J (.grp ⟨Wg, ps, .seen vs⟩) R g w
  | sem {Wg : Nat} {ps : List Post} {R : Perm} {g : Goroutine} {w : World} : g.status = .running → g.offers = none → (∀ st, WgC Wg w st 0 → stepG P true g w = .go { g with status := .blocked } w #[]) →
      (WgC Wg w 0 1 → ∃ g', stepG P true g w = .go g' (setSm Wg 0 w) (semEvents (smA Wg)) ∧ J (.grp ⟨Wg, ps, .got⟩) R g' w) → MStep J (.grp ⟨Wg, ps, .reg⟩) R g w
  | last {Wg : Nat} {ps : List Post} {R : Perm} {g : Goroutine} {w : World} : g.status = .running → (WgC Wg w 0 0 → ∃ g', stepG P true g w = .go g' w #[rd (stA Wg)] ∧ J (.grp ⟨Wg, ps, .fin⟩) R g' w) → MStep J (.grp ⟨Wg, ps, .got⟩) R g w
  | acq {Wg : Nat} {ps : List Post} {R : Perm} {g g' : Goroutine} {w : World} : g.status = .running → R.deaf = 0 → stepG P true g w = .go g' w #[mk (.acquire (stA Wg))] →
      (∀ Rs : List Perm, Rel2 (fun p S => p.ok S w ∧ Low S w ∧ Dis R S ∧ Dis S R) ps Rs → Rs.Pairwise (fun S T => Dis S T ∧ Dis T S) →
        ∃ R', R'.deaf = 0 ∧ (∀ b o, R'.wr b o → R'.rd b o) ∧ (∀ b o, R'.rd b o → R.rd b o ∨ ∃ S ∈ Rs, S.rd b o) ∧ (∀ b, R'.ob b → R.ob b ∨ ∃ S ∈ Rs, S.ob b) ∧ J .idle R' g' w) → MStep J (.grp ⟨Wg, ps, .fin⟩) R g w
/-- The starter. -/
def JM : GSt → Nat → Perm → Goroutine → World → Prop
  | _, 0, _, _, _ => False
  | σ, n + 1, R, g, w => JM σ n R g w ∨ ∀ w₁, Keeps R w w₁ → LiveS σ w₁ → MStep P Fin (fun σ' R' g' w' => JM σ' n R' g' w') σ R g w₁
end

section
variable {P : Program} {Fin : Value → World → Prop} {Wg : Nat} {p : Post}
theorem judge_jw : Judge P false (fun n R g w => JW P Wg p n R g w) :=
  ⟨fun h => .inl h, fun hr h => .inr ⟨hr, fun w₁ hk _ => let ⟨g', w', es, R', h1, h2⟩ := h w₁ hk; .own h1 h2⟩⟩
theorem judge_jm : ∀ σ, Judge P true (JM P Fin σ) := fun σ =>
  ⟨fun h => .inl h, fun hr h => .inr fun w₁ hk _ => let ⟨g', w', es, R', h1, h2⟩ := h w₁ hk; .own hr h1 h2⟩
theorem JW.keeps : ∀ {n : Nat} {R : Perm} {g : Goroutine} {w w₁ : World}, JW P Wg p n R g w → Keeps R w w₁ → JW P Wg p n R g w₁
  | 0, _, _, _, _, h, _ => h
  | n + 1, R, g, w, w₁, h, k => h.imp (fun x => x.keeps k) fun x => ⟨x.1, fun w₂ k₂ => x.2 w₂ (k.trans k₂)⟩
theorem JM.keeps : ∀ {n : Nat} {σ : GSt} {R : Perm} {g : Goroutine} {w w₁ : World}, JM P Fin σ n R g w → Keeps R w w₁ → JM P Fin σ n R g w₁
  | 0, _, _, _, _, _, h, _ => h
  | n + 1, σ, R, g, w, w₁, h, k => h.imp (fun x => x.keeps k) fun x w₂ k₂ => x w₂ (k.trans k₂)
/-- Its next step. -/
theorem JW.out : ∀ {n : Nat} {R : Perm} {g : Goroutine} {w : World}, JW P Wg p n R g w → ∃ m, m < n ∧ g.status = .running ∧ (LiveW Wg w → WStep P Wg p (JW P Wg p m) m R g w)
  | 0, _, _, _, h => h.elim
  | n + 1, R, g, w, h => h.elim (fun x => let ⟨m, h1, h2⟩ := JW.out x; ⟨m, by omega, h2⟩) fun x => ⟨n, by omega, x.1, x.2 w (Keeps.refl _ _)⟩
theorem JM.out : ∀ {n : Nat} {σ : GSt} {R : Perm} {g : Goroutine} {w : World}, JM P Fin σ n R g w → ∃ m, m < n ∧ (LiveS σ w → MStep P Fin (fun σ' R' g' w' => JM P Fin σ' m R' g' w') σ R g w)
  | 0, _, _, _, _, h => h.elim
  | n + 1, σ, R, g, w, h => h.elim (fun x => let ⟨m, h1, h2⟩ := JM.out x; ⟨m, by omega, h2⟩) fun x => ⟨n, by omega, x w (Keeps.refl _ _)⟩
theorem JM.le {n m : Nat} {σ : GSt} {R : Perm} {g : Goroutine} {w : World} (h : JM P Fin σ n R g w) (hn : n ≤ m) : JM P Fin σ m R g w := (judge_jm σ).le hn h
theorem JD.mono : ∀ {n : Nat} {s : DSt} {g : Goroutine}, JD P Wg n s g → g.status = .running
  | 0, _, _, h => h.elim
  | _ + 1, _, _, h => h.1
end
end Go.AM
/-
  STEPS AND THE LEAVES: one goroutine's step leaves what the others may touch; a group's cells turn.
-/
set_option linter.unusedVariables false
set_option linter.unusedSimpArgs false
namespace Go.AM
open Go Go.Conc
open Go.ConcN (RelBy upd upd_same upd_ne)
open Go.ConcR (stA smA KK rd wr mk)

theorem frozen_setCell (w : World) (a : Addr) (v : Value) (b o : Nat) : (w.setCell a v).frozen? ⟨b, o, none⟩ = w.frozen? ⟨b, o, none⟩ := by
  unfold World.frozen? World.setCell
  simp only [Array.getElem?_modify]
  by_cases h : a.block = b
  · subst h
    cases hb : w.heap[a.block]? with
    | none => simp
    | some x => cases x with
      | cells c e f => simp
      | _ => simp
  · simp [h]
theorem size_setCell (w : World) (a : Addr) (v : Value) : (w.setCell a v).heap.size = w.heap.size := by simp [World.setCell]
theorem heap_setCell (w : World) (a : Addr) (v : Value) (b : Nat) (h : a.block ≠ b) : (w.setCell a v).heap[b]? = w.heap[b]? := by
  unfold World.setCell
  simp only [Array.getElem?_modify, h, if_false]
theorem shape_of_cell {w : World} {b o : Nat} {v : Value} (h : w.cell? ⟨b, o, none⟩ = some v) : w.shape? b ≠ none := by
  unfold World.cell? at h
  unfold World.shape?
  cases hb : w.heap[b]? with
  | none => simp [hb] at h
  | some x => cases x <;> simp_all

section
variable {Wg : Nat} {w w' : World} {st sm x : Int} {R S : Perm}
theorem WgC.setSt (h : WgC Wg w st sm) (x : Int) : WgC Wg (setSt Wg x w) x sm := by
  refine ⟨?_, ?_, fun o ho => (frozen_setCell ..).trans (h.fz o ho)⟩
  · show (w.setCell (stA Wg) _).cell? _ = _
    rw [cell_setCell _ _ _ _ _ rfl]
    simp [stA, h.st]
  · show (w.setCell (stA Wg) _).cell? _ = _
    rw [cell_setCell _ _ _ _ _ rfl]
    simp [stA, h.sm]
theorem WgC.setSm (h : WgC Wg w st sm) (x : Int) : WgC Wg (setSm Wg x w) st x := by
  refine ⟨?_, ?_, fun o ho => (frozen_setCell ..).trans (h.fz o ho)⟩
  · show (w.setCell (smA Wg) _).cell? _ = _
    rw [cell_setCell _ _ _ _ _ rfl]
    simp [smA, h.st]
  · show (w.setCell (smA Wg) _).cell? _ = _
    rw [cell_setCell _ _ _ _ _ rfl]
    simp [smA, h.sm]
theorem WgC.at (h : WgC Wg w st sm) (d : Nat) : WgC Wg (w.at d) st sm := ⟨h.st, h.sm, h.fz⟩
theorem WgC.uniq {st' sm' : Int} (h : WgC Wg w st sm) (h' : WgC Wg w st' sm') : st = st' ∧ sm = sm' := by
  have h1 := h.st.symm.trans h'.st
  have h2 := h.sm.symm.trans h'.sm
  simp only [Option.some.injEq, Value.int.injEq, true_and] at h1 h2
  exact ⟨h1, h2⟩
theorem keeps_setCell {o : Nat} {v u : Value} (hl : Low R w) (hs : ¬ R.rd Wg o) (hc : w.cell? ⟨Wg, o, none⟩ = some u) : Keeps R w (w.setCell ⟨Wg, o, none⟩ v) := by
  refine ⟨rfl, rfl, rfl, by rw [size_setCell]; exact Nat.le_refl _, fun b _ => shape_setCell .., fun b x hr => ?_, fun b x _ => froz_setCell .., fun b hb => heap_setCell _ _ _ _ fun e => ?_⟩
  · rw [cell_setCell _ _ _ _ _ rfl]
    split
    · rename_i h
      obtain ⟨rfl, rfl, _⟩ := h
      exact absurd hr hs
    · rfl
  · simp only at e
    subst e
    exact shape_of_cell hc (hl.ob _ hb).2
theorem keeps_setSt (hl : Low R w) (hs : ∀ o, o ≤ 1 → ¬ R.rd Wg o) (h : WgC Wg w st sm) : Keeps R w (setSt Wg x w) := keeps_setCell hl (hs 0 (by omega)) h.st
theorem keeps_setSm (hl : Low R w) (hs : ∀ o, o ≤ 1 → ¬ R.rd Wg o) (h : WgC Wg w st sm) : Keeps R w (setSm Wg x w) := keeps_setCell hl (hs 1 (by omega)) h.sm
theorem WgC.chg (h : WgC Wg w st sm) (c : Chg R w.heap.size w w') (hW : Wg < w.heap.size) (hs : ∀ o, o ≤ 1 → ¬ R.wr Wg o) : WgC Wg w' st sm :=
  ⟨(c.cell Wg 0 hW (hs 0 (by omega))).trans h.st, (c.cell Wg 1 hW (hs 1 (by omega))).trans h.sm, fun o ho => (frz_froz (c.froz Wg o hW)).trans (h.fz o ho)⟩
theorem keeps_chg (c : Chg R w.heap.size w w') (hd : Dis R S) (hl : Low S w) : Keeps S w w' :=
  ⟨c.tape, c.os, c.output, c.size, fun b hb => c.shape b hb, fun b o hr => c.cell b o (hl.rd b o hr) fun hw => hd.cell b o hw hr, fun b o hb => c.froz b o hb,
    fun b hb => c.obj b (hl.ob b hb).1 (fun hr => hd.obj b hr hb) (hl.ob b hb).2⟩
end

section
variable {sh : Nat → Prop} {D : Nat → WS} {size k Wg : Nat} {w w' : World} {R R' : Perm}
/-- The leaves, k's own turned. -/
theorem Lay.own (L : Lay sh D size w) (hk : k < size) (hD : D k = .work R) (hin : Within R R' w.heap.size) (hl : Low R' w') (hs : w.heap.size ≤ w'.heap.size)
    (hkeep : ∀ j S, j ≠ k → j < size → (D j).perm? = some S → Keeps S w w') : Lay sh (upd D k (.work R')) size w' := by
  have hp : (D k).perm? = some R := by rw [hD]; rfl
  have cases' : ∀ j S, (upd D k (.work R') j).perm? = some S → (j = k ∧ S = R') ∨ (j ≠ k ∧ (D j).perm? = some S) := by
    intro j S h
    by_cases e : j = k
    · subst e; rw [upd_same] at h; exact .inl ⟨rfl, (Option.some.inj h).symm⟩
    · rw [upd_ne _ _ e] at h; exact .inr ⟨e, h⟩
  have hlR := L.low k R hk hp
  have dl : ∀ j S, j ≠ k → j < size → (D j).perm? = some S → Dis R' S := by
    intro j S hj hjs hS
    have d := L.dis k j R S (Ne.symm hj) hk hjs hp hS
    have l := L.low j S hjs hS
    exact ⟨fun b o h1 h2 => (hin.wr b o h1).elim (fun x => d.cell b o x h2) fun x => absurd (l.rd b o h2) (by omega), fun b h1 h2 => (hin.ob b h1).elim (fun x => d.obj b x h2) fun x => absurd (l.ob b h2).1 (by omega)⟩
  have dr : ∀ j S, j ≠ k → j < size → (D j).perm? = some S → Dis S R' := by
    intro j S hj hjs hS
    have d := L.dis j k S R hj hjs hk hS hp
    have l := L.low j S hjs hS
    exact ⟨fun b o h1 h2 => (hin.rd b o h2).elim (fun x => d.cell b o h1 x) fun x => absurd (l.rd b o (l.wr b o h1)) (by omega), fun b h1 h2 => (hin.ob b h2).elim (fun x => d.obj b h1 x) fun x => absurd (l.ob b h1).1 (by omega)⟩
  refine ⟨fun j S hj hS => ?_, fun i j S T hij hi hj hS hT => ?_, fun j S hj hS b o hr hb => ?_, fun b hb => Nat.lt_of_lt_of_le (L.sh b hb) hs⟩
  · rcases cases' j S hS with ⟨rfl, rfl⟩ | ⟨e, h⟩
    · exact hl
    · exact (L.low j S hj h).keeps (hkeep j S e hj h)
  · rcases cases' i S hS with ⟨rfl, rfl⟩ | ⟨e, h⟩
    · rcases cases' j T hT with ⟨rfl, rfl⟩ | ⟨e', h'⟩
      · exact absurd rfl hij
      · exact dl j T e' hj h'
    · rcases cases' j T hT with ⟨rfl, rfl⟩ | ⟨e', h'⟩
      · exact dr i S e hi h
      · exact L.dis i j S T hij hi hj h h'
  · rcases cases' j S hS with ⟨rfl, rfl⟩ | ⟨e, h⟩
    · exact (hin.rd b o hr).elim (fun x => L.shy j R hk hp b o x hb) fun x => absurd (L.sh b hb) (by omega)
    · exact L.shy j S hj h b o hr hb
/-- The leaves, the world turned aside from them. -/
theorem Lay.turn (L : Lay sh D size w) (hs : w.heap.size ≤ w'.heap.size) (hkeep : ∀ j S, j < size → (D j).perm? = some S → Keeps S w w') : Lay sh D size w' :=
  ⟨fun j S hj hS => (L.low j S hj hS).keeps (hkeep j S hj hS), L.dis, L.shy, fun b hb => Nat.lt_of_lt_of_le (L.sh b hb) hs⟩
/-- The same leaves, otherwise told. -/
theorem Lay.same {D' : Nat → WS} (L : Lay sh D size w) (h : ∀ j, j < size → (D' j).perm? = (D j).perm? ∨ (D' j).perm? = none) : Lay sh D' size w := by
  have key : ∀ j S, j < size → (D' j).perm? = some S → (D j).perm? = some S := fun j S hj hS => by
    rcases h j hj with e | e
    · rw [← e]; exact hS
    · rw [e] at hS; cases hS
  exact ⟨fun j S hj hS => L.low j S hj (key j S hj hS), fun i j S T hij hi hj hS hT => L.dis i j S T hij hi hj (key i S hi hS) (key j T hj hT), fun j S hj hS => L.shy j S hj (key j S hj hS), L.sh⟩
end
end Go.AM
/-
  THE STARTER AND ITS GOROUTINES: how the group's cells hang on where everybody stands ('Mode'); the invariant's parts ('WSit', 'Com').
-/
set_option linter.unusedVariables false
set_option linter.unusedSimpArgs false
namespace Go.AM
open Go Go.Conc
open Go.ConcN (RelBy upd upd_same upd_ne sumTo sumTo_upd sumTo_congr le_sumTo)
open Go.ConcR (stA smA KK rd wr mk)

/-! ### what a step lists -/
theorem ev_touch {R : Perm} {e : Event} {b : Touch} (hl : ∀ b o, R.wr b o → R.rd b o) (h : EvW R e) (hb : (MemAct.ofEvent e).touch? = some b) : inR R b.loc ∧ (b.write = true → inW R b.loc) := by
  obtain ⟨loc, wri, sy⟩ := e
  rcases h with h | h | h
  · cases loc with
    | cell a =>
      rw [ofEvent_cell0] at hb
      simp only [MemAct.touch?, Option.some.injEq] at hb
      subst hb
      obtain ⟨h1, h2⟩ := h
      refine ⟨⟨h1, ?_⟩, fun hw => ⟨h1, ?_⟩⟩
      · by_cases hw : wri = true
        · simp only [hw, if_true] at h2; exact hl _ _ h2
        · simp only [hw, if_false] at h2; exact h2
      · simp only at hw
        simp only [hw, if_true] at h2; exact h2
    | obj r =>
      obtain ⟨h1, h2⟩ := h
      simp only at h2
      subst h2
      cases wri <;> simp [MemAct.ofEvent, MemAct.touch?] at hb <;> subst hb <;> exact ⟨h1, fun _ => h1⟩
    | mark m =>
      have hm : markOk m := h
      cases m <;> simp_all [MemAct.ofEvent, MemAct.touch?, markOk]
    | _ => exact h.elim
  · simp only at h; subst h; simp [MemAct.ofEvent, MemAct.touch?] at hb
  · simp only at h; subst h; simp [MemAct.ofEvent, MemAct.touch?] at hb
theorem ev_norel {R : Perm} {e : Event} (h : EvW R e) (a : Addr) : MemAct.ofEvent e ≠ .mark (.release a) := by
  intro hx
  have hl := Go.ConcR.loc_of_ofEvent hx
  rcases h with h | h | h
  · unfold EvOK at h; rw [hl] at h; exact h
  · rw [h] at hl; cases hl
  · rw [h] at hl; cases hl
theorem inR_low {R : Perm} {w : World} (h : Low R w) {l : Loc} (hl : inR R l) : l.low w.heap.size := by
  cases l with
  | cell a => exact h.rd _ _ hl.2
  | obj r => exact (h.ob _ hl).1
  | _ => trivial

/-! ### the group's cells -/
def Vc (size : Nat) (S : Nat → Nat) : Nat := sumTo size fun i => if 5 ≤ S i then 1 else 0
def OpenSt (lo size : Nat) (S : Nat → Nat) : Prop := ∀ i, lo ≤ i → i < size → S i = 7 ∨ S i = 6 ∨ S i = 5 ∨ S i = 1
def AllQuit (lo size : Nat) (S : Nat → Nat) : Prop := ∀ i, lo ≤ i → i < size → S i = 1
inductive Mode (lo size : Nat) (S : Nat → Nat) : Sub → Bool → Int → Int → Prop
  | opn {V : Nat} : OpenSt lo size S → Vc size S ≤ V → V ≤ VM → Mode lo size S (.opn V) false ((Vc size S : Nat) * KK) 0
  | added {V : Nat} : OpenSt lo size S → Vc size S ≤ V → V < VM → Mode lo size S (.added V) false (((Vc size S : Nat) + 1) * KK) 0
  | seen {vs : Nat} : OpenSt lo size S → Vc size S ≤ vs → 1 ≤ vs → vs ≤ VM → Mode lo size S (.seen vs) false ((Vc size S : Nat) * KK) 0
  | reg {b : Bool} : OpenSt lo size S → 1 ≤ Vc size S → Vc size S ≤ VM → Mode lo size S .reg b ((Vc size S : Nat) * KK + 1) 0
  | last {b : Bool} (L : Nat) : lo ≤ L → L < size → S L = 4 ∨ S L = 3 ∨ S L = 2 → (∀ i, lo ≤ i → i < size → i ≠ L → S i = 1) → Mode lo size S .reg b (if S L = 2 then 0 else 1) 0
  | sema : AllQuit lo size S → Mode lo size S .reg false 0 1
  | got : AllQuit lo size S → Mode lo size S .got false 0 0
  | fin : AllQuit lo size S → Mode lo size S .fin false 0 0
section
variable {lo size : Nat} {S : Nat → Nat} {s : Sub} {b : Bool} {st sm : Int}
theorem vc_upd (S : Nat → Nat) {i x : Nat} (hi : i < size) : Vc size (upd S i x) + (if 5 ≤ S i then 1 else 0) = Vc size S + (if 5 ≤ x then 1 else 0) :=
  sumTo_upd S x (fun y => if 5 ≤ y then 1 else 0) hi
theorem vc_pos (S : Nat → Nat) {i : Nat} (hi : i < size) (h : 5 ≤ S i) : 1 ≤ Vc size S := by
  have := le_sumTo (f := fun i => if 5 ≤ S i then 1 else 0) hi
  simp only [h, if_true] at this
  exact this
theorem vc_two (S : Nat → Nat) {i j : Nat} (hi : i < size) (hj : j < size) (hij : j ≠ i) (h : 5 ≤ S i) (h' : 5 ≤ S j) : 2 ≤ Vc size S := by
  have h1 := vc_upd S (x := 0) hi
  have h2 := vc_pos (upd S i 0) hj (by rw [upd_ne _ _ hij]; exact h')
  simp only [h, if_true] at h1
  simp at h1
  omega
theorem vc_zero (h : Vc size S = 0) {i : Nat} (hi : i < size) : ¬ 5 ≤ S i := fun h5 => by have := vc_pos S hi h5; omega
theorem Mode.wake (h : Mode lo size S s b st sm) (b' : Bool) (hb : b' = b ∨ b' = false) : Mode lo size S s b' st sm := by
  rcases hb with rfl | rfl
  · exact h
  · cases h with
    | opn h1 h2 h3 => exact .opn h1 h2 h3
    | added h1 h2 h3 => exact .added h1 h2 h3
    | seen h1 h2 h3 h4 => exact .seen h1 h2 h3 h4
    | reg h1 h2 h3 => exact .reg h1 h2 h3
    | last L h1 h2 h3 h4 => exact .last L h1 h2 h3 h4
    | sema h1 => exact .sema h1
    | got h1 => exact .got h1
    | fin h1 => exact .fin h1
/-- One that is counted goes on, counted. -/
theorem Mode.goOn (h : Mode lo size S s b st sm) {i x : Nat} (hlo : lo ≤ i) (hi : i < size) (h5 : 5 ≤ S i) (hx : x = 7 ∨ x = 6 ∨ x = 5) : Mode lo size (upd S i x) s b st sm := by
  have hv : Vc size (upd S i x) = Vc size S := by
    have := vc_upd S (x := x) hi
    simp only [h5, if_true, show 5 ≤ x by omega] at this
    omega
  have ho : OpenSt lo size S → OpenSt lo size (upd S i x) := fun h a h1 h2 => by
    by_cases e : a = i
    · subst e; rw [upd_same]; omega
    · rw [upd_ne _ _ e]; exact h a h1 h2
  cases h with
  | opn h1 h2 h3 => rw [← hv] at h2 ⊢; exact .opn (ho h1) h2 h3
  | added h1 h2 h3 => rw [← hv] at h2 ⊢; exact .added (ho h1) h2 h3
  | seen h1 h2 h3 h4 => rw [← hv] at h2 ⊢; exact .seen (ho h1) h2 h3 h4
  | reg h1 h2 h3 => rw [← hv] at h2 h3 ⊢; exact .reg (ho h1) h2 h3
  | last L h1 h2 h3 h4 =>
    by_cases e : i = L
    · subst e; omega
    · have := h4 i hlo hi e; omega
  | sema h1 => have := h1 i hlo hi; omega
  | got h1 => have := h1 i hlo hi; omega
  | fin h1 => have := h1 i hlo hi; omega
/-- Whoever stands at 4, 3 or 2 is the last. -/
theorem Mode.isLast (h : Mode lo size S s b st sm) {i : Nat} (hlo : lo ≤ i) (hi : i < size) (hs : S i = 4 ∨ S i = 3 ∨ S i = 2) :
    s = .reg ∧ (∀ a, lo ≤ a → a < size → a ≠ i → S a = 1) ∧ st = (if S i = 2 then 0 else 1) ∧ sm = 0 := by
  cases h with
  | opn h1 _ _ => have := h1 i hlo hi; omega
  | added h1 _ _ => have := h1 i hlo hi; omega
  | seen h1 _ _ _ => have := h1 i hlo hi; omega
  | reg h1 _ _ => have := h1 i hlo hi; omega
  | last L h1 h2 h3 h4 =>
    by_cases e : i = L
    · subst e; exact ⟨rfl, h4, rfl, rfl⟩
    · have := h4 i hlo hi e; omega
  | sema h1 => have := h1 i hlo hi; omega
  | got h1 => have := h1 i hlo hi; omega
  | fin h1 => have := h1 i hlo hi; omega
/-- The add of -1. -/
theorem Mode.minus (h : Mode lo size S s b st sm) {i : Nat} (hlo : lo ≤ i) (hi : i < size) (hs : S i = 5) :
    ∃ v wt : Nat, wt ≤ 1 ∧ v < VM ∧ st = ((v : Int) + 1) * KK + wt ∧ sm = 0 ∧ ((v = 0 ∧ wt = 1) → Mode lo size (upd S i 4) s b ((v : Int) * KK + wt) 0) ∧ (¬ (v = 0 ∧ wt = 1) → Mode lo size (upd S i 1) s b ((v : Int) * KK + wt) 0) := by
  have hp := vc_pos S hi (by omega : 5 ≤ S i)
  have hv : ∀ x, ¬ 5 ≤ x → Vc size (upd S i x) + 1 = Vc size S := by
    intro x hx
    have := vc_upd S (x := x) hi
    simp only [show 5 ≤ S i by omega, if_true, hx, if_false] at this
    omega
  have ho : OpenSt lo size S → OpenSt lo size (upd S i 1) := fun h a h1 h2 => by
    by_cases e : a = i
    · subst e; rw [upd_same]; simp
    · rw [upd_ne _ _ e]; exact h a h1 h2
  have h1 := hv 1 (by omega)
  obtain ⟨v, hvv⟩ : ∃ v, Vc size S = v + 1 := ⟨Vc size S - 1, by omega⟩
  have e1 : Vc size (upd S i 1) = v := by omega
  cases h with
  | opn h2 h3 h4 =>
    refine ⟨v, 0, by omega, by omega, ?_, rfl, fun x => absurd x.2 (by omega), fun _ => ?_⟩
    · rw [hvv]; simp
    · have : Mode lo size (upd S i 1) (.opn _) false ((Vc size (upd S i 1) : Nat) * KK) 0 := .opn (ho h2) (by omega : Vc size (upd S i 1) ≤ _) h4
      rw [e1] at this
      simpa using this
  | added h2 h3 h4 =>
    refine ⟨v + 1, 0, by omega, by omega, ?_, rfl, fun x => absurd x.2 (by omega), fun _ => ?_⟩
    · rw [hvv]; simp
    · have : Mode lo size (upd S i 1) (.added _) false (((Vc size (upd S i 1) : Nat) + 1) * KK) 0 := .added (ho h2) (by omega : Vc size (upd S i 1) ≤ _) h4
      rw [e1] at this
      simpa using this
  | seen h2 h3 h4 h5 =>
    refine ⟨v, 0, by omega, by omega, ?_, rfl, fun x => absurd x.2 (by omega), fun _ => ?_⟩
    · rw [hvv]; simp
    · have : Mode lo size (upd S i 1) (.seen _) false ((Vc size (upd S i 1) : Nat) * KK) 0 := .seen (ho h2) (by omega : Vc size (upd S i 1) ≤ _) h4 h5
      rw [e1] at this
      simpa using this
  | reg h2 h3 h4 =>
    refine ⟨v, 1, by omega, by omega, ?_, rfl, fun x => ?_, fun x => ?_⟩
    · rw [hvv]; simp
    · obtain ⟨rfl, _⟩ := x
      have : Mode lo size (upd S i 4) .reg b (if upd S i 4 i = 2 then 0 else 1) 0 := .last i hlo hi (by rw [upd_same]; simp) fun a ha1 ha2 hne => by
        rw [upd_ne _ _ hne]
        have h6 := h2 a ha1 ha2
        by_cases h7 : 5 ≤ S a
        · have := vc_two S hi ha2 hne (by omega) h7; omega
        · omega
      rw [upd_same] at this
      simpa using this
    · have : Mode lo size (upd S i 1) .reg b ((Vc size (upd S i 1) : Nat) * KK + 1) 0 := .reg (ho h2) (by omega) (by omega)
      rw [e1] at this
      simpa using this
  | last L h2 h3 h4 h5 =>
    by_cases e : i = L
    · subst e; omega
    · have := h5 i hlo hi e; omega
  | sema h2 => have := h2 i hlo hi; omega
  | got h2 => have := h2 i hlo hi; omega
  | fin h2 => have := h2 i hlo hi; omega
theorem allQuit_of (h : OpenSt lo size S) (h0 : Vc size S = 0) : AllQuit lo size S := fun i h1 h2 => by
  have := h i h1 h2
  have := vc_zero h0 h2
  omega
end

/-! ### the parts of the invariant -/
section
variable (P : Program) (Wg : Nat) (p : Post)
inductive WSit : WS → Nat → Nat → Nat → Goroutine → World → Prop
  | work {R : Perm} {n : Nat} {g : Goroutine} {w : World} : JW P Wg p n R g w → WSit (.work R) 7 n R.deaf g w
  | k1 {R : Perm} {r n : Nat} {g : Goroutine} {w : World} : JD P Wg n .k1 g → WSit (.rel R r) 6 n 0 g w
  | d1 {R : Perm} {r n : Nat} {g : Goroutine} {w : World} : JD P Wg n .d1 g → WSit (.rel R r) 5 n 1 g w
  | d2 {R : Perm} {r n : Nat} {g : Goroutine} {w : World} : JD P Wg n .d2 g → WSit (.rel R r) 4 n 1 g w
  | d3 {R : Perm} {r n : Nat} {g : Goroutine} {w : World} : JD P Wg n .d3 g → WSit (.rel R r) 3 n 1 g w
  | d4 {R : Perm} {r n : Nat} {g : Goroutine} {w : World} : JD P Wg n .d4 g → WSit (.rel R r) 2 n 1 g w
  | gone {R : Perm} {r n d : Nat} {g : Goroutine} {w : World} : QuitsD P n d g → WSit (.rel R r) 1 n d g w
  | old {n d : Nat} {g : Goroutine} {w : World} : QuitsD P n d g → WSit .old 0 n d g w
end
section
variable {P : Program} {Wg : Nat} {p : Post} {ws : WS} {s n d : Nat} {g : Goroutine} {w w' : World}
theorem WSit.status (h : WSit P Wg p ws s n d g w) : g.status = .running ∨ (g.status = .finished ∧ s ≤ 1) := by
  cases h with
  | work h => exact .inl (JW.out h).choose_spec.2.1
  | k1 h => exact .inl h.mono
  | d1 h => exact .inl h.mono
  | d2 h => exact .inl h.mono
  | d3 h => exact .inl h.mono
  | d4 h => exact .inl h.mono
  | gone h => exact h.status.imp id fun x => ⟨x, by omega⟩
  | old h => exact h.status.imp id fun x => ⟨x, by omega⟩
theorem WSit.woken (h : WSit P Wg p ws s n d g w) (a b : Goroutine) (w' : World) : woken P a b w' g = g := by
  unfold Go.Conc.woken
  split
  · exact again_running _ (h.status.imp id (·.1))
  · rfl
theorem WSit.keeps (h : WSit P Wg p ws s n d g w) (k : ∀ R, ws.perm? = some R → Keeps R w w') : WSit P Wg p ws s n d g w' := by
  cases h with
  | work h => exact .work (h.keeps (k _ rfl))
  | k1 h => exact .k1 h
  | d1 h => exact .d1 h
  | d2 h => exact .d2 h
  | d3 h => exact .d3 h
  | d4 h => exact .d4 h
  | gone h => exact .gone h
  | old h => exact .old h
end
structure Com (P : Program) (Wg : Nat) (sh : Nat → Prop) (lo : Nat) (D : Nat → WS) (S F : Nat → Nat) (ps : Nat → Post) (gs : Array Goroutine) (w : World) (t : Trace) : Prop where
  lom : 1 ≤ lo ∧ lo ≤ gs.size
  wk : ∀ i, 0 < i → i < gs.size → ∃ g, gs[i]? = some g ∧ WSit P Wg (ps i) (D i) (S i) (F i) (Deaf t i) g w
  old : ∀ i, i < lo → S i = 0
  act : ∀ i, lo ≤ i → i < gs.size → S i ≠ 0
  post : ∀ i R r, i < gs.size → D i = .rel R r → (ps i).ok R w
  stab : ∀ i, lo ≤ i → i < gs.size → Stable (ps i)
  above : ∀ j, gs.size ≤ j → Deaf t j = 0
  lay : Lay sh D gs.size w
  ti : TI Wg sh D gs.size w.heap.size t
end Go.AM
/-
  THE INVARIANT, and whatever step of a goroutine that is not the starter.
-/
set_option linter.unusedVariables false
set_option linter.unusedSimpArgs false
namespace Go.AM
open Go Go.Conc
open Go.ConcN (RelBy upd upd_same upd_ne sumTo sumTo_upd sumTo_congr le_sumTo)
open Go.ConcR (stA smA KK rd wr mk)

def GrpOk (σ : GSt) (Wg : Nat) (sh : Nat → Prop) (lo size : Nat) (S : Nat → Nat) (ps : Nat → Post) (b : Bool) (w : World) : Prop :=
  match σ with
  | .wrk => False
  | .idle => lo = size ∧ b = false
  | .grp gr => gr.Wg = Wg ∧ sh Wg ∧ gr.posts = ((List.range (size - lo)).map fun i => ps (lo + i)).reverse ∧ ∃ st sm, WgC Wg w st sm ∧ Mode lo size S gr.sub b st sm
theorem GrpOk.live {σ : GSt} {Wg : Nat} {sh : Nat → Prop} {lo size : Nat} {S : Nat → Nat} {ps : Nat → Post} {b : Bool} {w : World} (h : GrpOk σ Wg sh lo size S ps b w) : LiveS σ w := by
  cases σ with
  | wrk => trivial
  | idle => trivial
  | grp gr => obtain ⟨rfl, _, _, st, sm, h1, _⟩ := h; exact ⟨st, sm, h1⟩
def mainB (b : Bool) (g : Goroutine) : Goroutine := if b then { g with status := .blocked } else g
structure IV (P : Program) (Fin : Value → World → Prop) (gs : Array Goroutine) (w : World) (t : Trace) (σ : GSt) (n : Nat) (R : Perm) (g : Goroutine) (Wg : Nat) (sh : Nat → Prop) (lo : Nat) (D : Nat → WS) (S F : Nat → Nat) (ps : Nat → Post) (b : Bool) : Prop where
  main : gs[0]? = some (mainB b g)
  blk : b = true → g.status = .running ∧ g.offers = none
  jm : JM P Fin σ n R g w
  perm : D 0 = .work R
  deaf : Deaf t 0 = R.deaf
  com : Com P Wg sh lo D S F ps gs w t
  grp : GrpOk σ Wg sh lo gs.size S ps b w
def meas (n : Nat) (b : Bool) (size : Nat) (F : Nat → Nat) : Nat × Nat := (n, (if b then 0 else 1) + 2 * sumTo size F)
def Inv (P : Program) (Fin : Value → World → Prop) (μ : Nat × Nat) (m : Machine) (t : Trace) : Prop :=
  ∃ gs w sl σ n R g Wg sh lo D S F ps b, m = crowd gs w sl ∧ IV P Fin gs w t σ n R g Wg sh lo D S F ps b ∧ μ = meas n b gs.size F

section
variable {P : Program} {Fin : Value → World → Prop} {gs : Array Goroutine} {w w' : World} {t : Trace} {σ : GSt} {n : Nat} {R : Perm} {g : Goroutine} {Wg : Nat} {sh : Nat → Prop} {lo : Nat} {D : Nat → WS} {S F : Nat → Nat} {ps : Nat → Post} {b : Bool} {sl : Option (Nat × Nat)}
theorem IV.size (I : IV P Fin gs w t σ n R g Wg sh lo D S F ps b) : 0 < gs.size := (Array.getElem?_eq_some_iff.1 I.main).1
theorem IV.low0 (I : IV P Fin gs w t σ n R g Wg sh lo D S F ps b) : Low R w := I.com.lay.low 0 R I.size (by rw [I.perm]; rfl)
theorem JM.running : ∀ (n : Nat) {σ : GSt} {R : Perm} {g : Goroutine} {w : World}, JM P Fin σ n R g w → LiveS σ w → g.status = .running := by
  intro n
  induction n using Nat.strongRecOn with
  | _ n ih =>
    intro σ R g w h hl
    obtain ⟨m, hm, hs⟩ := h.out
    cases hs hl with
    | own h _ _ => exact h
    | ends h _ _ _ _ => exact h
    | begins _ _ _ _ _ h1 _ h2 => exact ih m hm h2 ⟨_, _, h1⟩
    | add h _ _ => exact h
    | said h _ _ _ => exact h
    | spawn h => exact h
    | load h _ => exact h
    | cas h _ => exact h
    | sem h _ _ _ => exact h
    | last h _ => exact h
    | acq h _ _ _ => exact h
theorem mainB_awake (hb : b = false → g.status = .running) : awake (mainB b g) := by
  cases b with
  | false => exact awake_of (.inl (hb rfl))
  | true => exact awake_of (.inr (.inl rfl))
/-- Of a goroutine that another's step may let try again. -/
theorem woken_mainB {a a' : Goroutine} (hrun : g.status = .running) (hoff : b = true → g.offers = none) (ha' : a'.status = .running ∨ a'.status = .finished) :
    ∃ b', woken P a a' w' (mainB b g) = mainB b' g ∧ (b' = b ∨ b' = false) ∧ (mayWake P a = true → b' = false) := by
  have hc : (a'.status != .blocked && a'.status != .waiting) = true := by rcases ha' with h | h <;> rw [h] <;> rfl
  cases b with
  | false =>
    refine ⟨false, ?_, .inl rfl, fun _ => rfl⟩
    show woken P a a' w' g = g
    exact woken_running hrun
  | true =>
    by_cases hm : mayWake P a = true
    · refine ⟨false, ?_, .inr rfl, fun _ => rfl⟩
      unfold Go.Conc.woken
      rw [if_pos (by rw [Bool.and_eq_true] at hc; simp [hm, hc.1, hc.2])]
      exact Go.ConcR.again_blocked hrun (hoff rfl) w'
    · refine ⟨true, ?_, .inl rfl, fun h => absurd h hm⟩
      unfold Go.Conc.woken
      rw [if_neg (by simp [hm])]

theorem IV.running (I : IV P Fin gs w t σ n R g Wg sh lo D S F ps b) : g.status = .running := JM.running n I.jm I.grp.live

/-- WHATEVER STEP OF A GOROUTINE THAT IS NOT THE STARTER. -/
theorem IV.worker (I : IV P Fin gs w t σ n R g Wg sh lo D S F ps b) {i : Nat} (hi0 : 0 < i) (hi : i < gs.size) {a a' : Goroutine} {es : Array Event} (ha : gs[i]? = some a) (hst : stepG P false a w = .go a' w' es)
    {ws : WS} {s m : Nat} (hkeep : ∀ j T, j ≠ i → j < gs.size → (D j).perm? = some T → Keeps T w w') (hsit : WSit P Wg (ps i) ws s m (deafBehind (Deaf t i) es) a' w') (hpost : ∀ T r, ws = .rel T r → (ps i).ok T w')
    (hold : s = 0 ↔ S i = 0) (hlay : Lay sh (upd D i ws) gs.size w') (hti : TI Wg sh (upd D i ws) gs.size w'.heap.size (t ++ MemOp.ofEvents i a.frame.fn a.frame.place es)) (hfuel : m < F i)
    (hgrp : ∀ b', (b' = b ∨ b' = false) → (mayWake P a = true → b' = false) → GrpOk σ Wg sh lo gs.size (upd S i s) ps b' w') :
    ∃ m₁ ops μ', runT P (crowd gs w sl) i = (.next m₁, ops) ∧ Lt2 μ' (meas n b gs.size F) ∧ Inv P Fin μ' m₁ (t ++ ops) := by
  have hrun := runT_crowd_go (P := P) (sl := sl) (i := i) ha (by rw [show (i == 0) = false by simp; omega]; exact hst)
  have hne0 : i ≠ 0 := by omega
  obtain ⟨b', hb1, hb2, hb3⟩ := woken_mainB (P := P) (w' := w') (a := a) (a' := a') I.running (fun h => (I.blk h).2) (hsit.status.imp id (·.1))
  have hsz : ((gs.map (woken P a a' w')).setIfInBounds i a').size = gs.size := by simp
  have hops : ∀ op ∈ MemOp.ofEvents i a.frame.fn a.frame.place es, op.g = i := Go.ConcR.g_of_ofEvents
  have hkR : Keeps R w w' := hkeep 0 R (by omega) I.size (by rw [I.perm]; rfl)
  refine ⟨_, _, _, hrun, ?_, _, w', sl, σ, n, R, g, Wg, sh, lo, upd D i ws, upd S i s, upd F i m, ps, b', rfl, ⟨?_, fun h => ?_, I.jm.keeps hkR, by rw [upd_ne _ _ (by omega)]; exact I.perm, ?_, ⟨?_, fun j hj0 hj => ?_, fun j hj => ?_, fun j hj1 hj => ?_, fun j T r hj hjr => ?_, ?_, fun j hj => ?_, ?_, ?_⟩, ?_⟩, rfl⟩
  · rw [hsz]
    unfold meas
    refine Prod.Lex.right _ ?_
    have h1 := sumTo_upd F m id hi
    simp only [id] at h1
    have h2 : (if b' then 0 else 1) ≤ (if b then 0 else 1) + 1 := by split <;> split <;> omega
    have h3 : (sumTo gs.size fun x => upd F i m x) = sumTo gs.size (upd F i m) := rfl
    have h4 : (sumTo gs.size fun x => F x) = sumTo gs.size F := rfl
    rw [h3, h4] at h1
    omega
  · rw [Array.getElem?_setIfInBounds_ne hne0, Array.getElem?_map, I.main, Option.map_some, hb1]
  · rcases hb2 with rfl | rfl
    · exact I.blk h
    · cases h
  · rw [Deaf_other t (by omega) _ hops]; exact I.deaf
  · rw [hsz]; exact I.com.lom
  · rw [hsz] at hj
    by_cases e : j = i
    · subst e
      refine ⟨a', by rw [Array.getElem?_setIfInBounds_self_of_lt (by simpa using hi)], ?_⟩
      rw [upd_same, upd_same, upd_same, Deaf_own]
      exact hsit
    · obtain ⟨x, hx, hxs⟩ := I.com.wk j hj0 hj
      refine ⟨x, by rw [Array.getElem?_setIfInBounds_ne (Ne.symm e), Array.getElem?_map, hx, Option.map_some, hxs.woken], ?_⟩
      rw [upd_ne _ _ e, upd_ne _ _ e, upd_ne _ _ e, Deaf_other t (Ne.symm e) _ hops]
      exact hxs.keeps fun T hT => hkeep j T e hj hT
  · by_cases e : j = i
    · subst e; rw [upd_same]; exact hold.2 (I.com.old j hj)
    · rw [upd_ne _ _ e]; exact I.com.old j hj
  · rw [hsz] at hj
    by_cases e : j = i
    · subst e; rw [upd_same]; exact fun h => I.com.act j hj1 hj (hold.1 h)
    · rw [upd_ne _ _ e]; exact I.com.act j hj1 hj
  · rw [hsz] at hj
    by_cases e : j = i
    · subst e; rw [upd_same] at hjr; exact hpost T r hjr
    · rw [upd_ne _ _ e] at hjr
      have hlo : lo ≤ j := Nat.le_of_not_lt fun hlt => by
        have h0 := I.com.old j hlt
        rcases Nat.eq_zero_or_pos j with rfl | hp
        · rw [I.perm] at hjr; cases hjr
        · obtain ⟨x, _, hxs⟩ := I.com.wk j hp hj
          rw [h0, hjr] at hxs
          cases hxs
      exact I.com.stab j hlo hj T w w' (I.com.post j T r hj hjr) (hkeep j T e hj (by rw [hjr]; rfl))
  · rw [hsz]; exact I.com.stab
  · rw [hsz] at hj
    rw [Deaf_other t (show i ≠ j by omega) _ hops]
    exact I.com.above j hj
  · rw [hsz]; exact hlay
  · rw [hsz]; exact hti
  · rw [hsz]; exact hgrp b' hb2 hb3
end
end Go.AM
/-
  A STEP OF A GOROUTINE THAT IS NOT THE STARTER keeps the invariant and lowers the measure.
-/
set_option linter.unusedVariables false
set_option linter.unusedSimpArgs false
namespace Go.AM
open Go Go.Conc
open Go.ConcN (RelBy upd upd_same upd_ne sumTo)
open Go.ConcR (stA smA KK rd wr mk)

theorem upd_self {α : Type} (f : Nat → α) (i : Nat) : upd f i (f i) = f := by
  funext a
  by_cases h : a = i
  · subst h; rw [upd_same]
  · rw [upd_ne _ _ h]
/-- The library's bookkeeping. -/
def BkE (Wg : Nat) (e : Event) : Prop := e.loc = .mark .disable ∨ e.loc = .mark .enable ∨ ∃ o wri, o ≤ 1 ∧ e = ⟨.cell ⟨Wg, o, none⟩, wri, true⟩
theorem bkE_touch {Wg : Nat} {e : Event} (h : BkE Wg e) : (MemAct.ofEvent e).touch? = none ∨ ∃ o wri, o ≤ 1 ∧ e = ⟨.cell ⟨Wg, o, none⟩, wri, true⟩ ∧ (MemAct.ofEvent e).touch? = some ⟨.cell ⟨Wg, o, none⟩, wri, .atomic⟩ := by
  obtain ⟨loc, wri, sy⟩ := e
  rcases h with h | h | ⟨o, wr', h1, h2⟩
  · simp only at h; subst h; exact .inl rfl
  · simp only at h; subst h; exact .inl rfl
  · cases h2; exact .inr ⟨o, _, h1, rfl, rfl⟩
theorem bkE_norel {Wg : Nat} {e : Event} (h : BkE Wg e) (a : Addr) : MemAct.ofEvent e ≠ .mark (.release a) := by
  intro hx
  have hl := Go.ConcR.loc_of_ofEvent hx
  rcases h with h | h | ⟨o, wr', h1, h2⟩
  · rw [h] at hl; cases hl
  · rw [h] at hl; cases hl
  · rw [h2] at hl; cases hl
theorem bk_st (Wg : Nat) (wri : Bool) : BkE Wg ⟨.cell (stA Wg), wri, true⟩ := .inr (.inr ⟨0, wri, by omega, rfl⟩)
theorem bk_sm (Wg : Nat) (wri : Bool) : BkE Wg ⟨.cell (smA Wg), wri, true⟩ := .inr (.inr ⟨1, wri, by omega, rfl⟩)
theorem deafB_sem (Wg : Nat) : deafBehind 1 (semEvents (smA Wg)) = 1 := rfl

section
variable {P : Program} {Fin : Value → World → Prop} {gs : Array Goroutine} {w w' : World} {t : Trace} {σ : GSt} {n : Nat} {R : Perm} {g : Goroutine} {Wg : Nat} {sh : Nat → Prop} {lo : Nat} {D : Nat → WS} {S F : Nat → Nat} {ps : Nat → Post} {b : Bool} {sl : Option (Nat × Nat)}

/-- Whoever is not only leaving belongs to the group. -/
theorem IV.member (I : IV P Fin gs w t σ n R g Wg sh lo D S F ps b) {i : Nat} (hi : i < gs.size) (hS : S i ≠ 0) :
    lo ≤ i ∧ ∃ gr, σ = .grp gr ∧ gr.Wg = Wg ∧ sh Wg ∧ gr.posts = ((List.range (gs.size - lo)).map fun i => ps (lo + i)).reverse ∧ ∃ st sm, WgC Wg w st sm ∧ Mode lo gs.size S gr.sub b st sm := by
  have hlo : lo ≤ i := Nat.le_of_not_lt fun h => hS (I.com.old i h)
  refine ⟨hlo, ?_⟩
  have hg := I.grp
  cases σ with
  | wrk => exact hg.elim
  | idle => obtain ⟨h, _⟩ := hg; omega
  | grp gr => exact ⟨gr, rfl, hg⟩

/-- A step of the library's bookkeeping by one that has said its release. -/
theorem IV.bookW (I : IV P Fin gs w t σ n R g Wg sh lo D S F ps b) {i : Nat} (hi0 : 0 < i) (hi : i < gs.size) {a a' : Goroutine} {es : Array Event} (ha : gs[i]? = some a) (hst : stepG P false a w = .go a' w' es)
    {T : Perm} {r s m : Nat} (hD : D i = .rel T r) (hkeep : ∀ j U, j < gs.size → (D j).perm? = some U → Keeps U w w') (hsz : w'.heap.size = w.heap.size) (hsh : sh Wg)
    (hev : ∀ j e, es[j]? = some e → BkE Wg e ∧ ((MemAct.ofEvent e).touch? = none ∨ 0 < deafBehind (Deaf t i) (es.extract 0 j)))
    (hsit : WSit P Wg (ps i) (.rel T r) s m (deafBehind (Deaf t i) es) a' w') (hs : s ≠ 0) (hS : S i ≠ 0) (hfuel : m < F i)
    (hgrp : ∀ b', (b' = b ∨ b' = false) → (mayWake P a = true → b' = false) → GrpOk σ Wg sh lo gs.size (upd S i s) ps b' w') :
    ∃ m₁ ops μ', runT P (crowd gs w sl) i = (.next m₁, ops) ∧ Lt2 μ' (meas n b gs.size F) ∧ Inv P Fin μ' m₁ (t ++ ops) := by
  have hmem : ∀ e ∈ es, BkE Wg e := fun e he => by
    obtain ⟨j, hj, rfl⟩ := Array.mem_iff_getElem.1 he
    exact (hev j _ (Array.getElem?_eq_getElem hj)).1
  have hself : upd D i (.rel T r) = D := by rw [← hD]; exact upd_self D i
  have hW : Wg < w.heap.size := I.com.lay.sh Wg hsh
  refine I.worker hi0 hi ha hst (fun j U _ hj hU => hkeep j U hj hU) hsit (fun T' r' h => ?_) ⟨fun h => absurd h hs, fun h => absurd h hS⟩ ?_ ?_ hfuel hgrp
  · cases h
    have hlo := (I.member hi hS).1
    exact I.com.stab i hlo hi T w w' (I.com.post i T r hi hD) (hkeep i T hi (by rw [hD]; rfl))
  · rw [hself]
    exact I.com.lay.turn (by omega) hkeep
  · rw [hself, hsz]
    refine I.com.ti.app I.com.lay hi (Nat.le_refl _) (fun _ _ => rfl) (.inl rfl) Go.ConcR.g_of_ofEvents (fun op hop bb hb => ?_) (fun op hop ad => ?_) (fun op hop bb hb => ?_) (fun T' r' hD' => ?_)
    · obtain ⟨e, he, rfl⟩ := Go.Conc.mem_ofEvents hop
      rcases bkE_touch (hmem e he) with h | ⟨o, wri, ho, _, h⟩
      · simp only at hb; rw [h] at hb; cases hb
      · simp only at hb; rw [h] at hb; cases hb; exact hW
    · obtain ⟨e, he, rfl⟩ := Go.Conc.mem_ofEvents hop
      exact bkE_norel (hmem e he) ad
    · obtain ⟨e, he, rfl⟩ := Go.Conc.mem_ofEvents hop
      refine .inr ⟨by rw [hD]; simp, ?_⟩
      rcases bkE_touch (hmem e he) with h | ⟨o, wri, ho, _, h⟩
      · simp only at hb; rw [h] at hb; cases hb
      · simp only at hb; rw [h] at hb; cases hb
        exact ⟨⟨hsh, rfl, ho⟩, by simp, by simp⟩
    · refine (I.com.ti.relb i T' r' hi hD').appOwn _ _ _ fun j e he => ?_
      obtain ⟨h1, h2⟩ := hev j e he
      rcases bkE_touch h1 with h | ⟨o, wri, ho, he', h⟩
      · exact .inl h
      · rcases h2 with h2 | h2
        · rw [h] at h2; cases h2
        · exact .inr ⟨⟨_, _, he'⟩, h2⟩
theorem ev_none : ∀ (d : Nat) (j : Nat) (e : Event), (#[] : Array Event)[j]? = some e → BkE Wg e ∧ ((MemAct.ofEvent e).touch? = none ∨ 0 < deafBehind d ((#[] : Array Event).extract 0 j)) := by
  intro d j e h; simp at h
theorem ev_list {d : Nat} {es : Array Event} (h1 : ∀ e ∈ es, BkE Wg e) (hd : 0 < d) (h : ∀ e ∈ es, e.loc ≠ .mark .enable) : ∀ (j : Nat) (e : Event), es[j]? = some e → BkE Wg e ∧ ((MemAct.ofEvent e).touch? = none ∨ 0 < deafBehind d (es.extract 0 j)) := by
  intro j e he
  refine ⟨h1 e (Array.mem_of_getElem? he), .inr ?_⟩
  have key : ∀ (l : List Event) (d : Nat), 0 < d → (∀ e ∈ l, e.loc ≠ .mark .enable) → 0 < l.foldl (fun d e => match e.loc with | .mark .disable => d + 1 | .mark .enable => d - 1 | _ => d) d := by
    intro l
    induction l with
    | nil => intro d hd _; exact hd
    | cons e l ih =>
      intro d hd hl
      rw [List.foldl_cons]
      refine ih _ ?_ fun x hx => hl x (by simp [hx])
      have := hl e (by simp)
      split
      · omega
      · rename_i hh; exact absurd hh this
      · exact hd
  have hfold : deafBehind d (es.extract 0 j) = (es.toList.take j).foldl (fun d e => match e.loc with | .mark .disable => d + 1 | .mark .enable => d - 1 | _ => d) d := by
    unfold deafBehind
    rw [← Array.foldl_toList, Array.toList_extract]
    rfl
  rw [hfold]
  exact key _ d hd fun x hx => h x (by simpa using List.mem_of_mem_take hx)
end
end Go.AM
/-
  THE STEPS OF GOROUTINES THAT ARE NOT THE STARTER, kind by kind.
-/
set_option linter.unusedVariables false
set_option linter.unusedSimpArgs false
namespace Go.AM
open Go Go.Conc
open Go.ConcN (RelBy upd upd_same upd_ne sumTo)
open Go.ConcR (stA smA KK rd wr mk)

section
variable {P : Program} {Fin : Value → World → Prop} {gs : Array Goroutine} {w w' : World} {t : Trace} {σ : GSt} {n : Nat} {R : Perm} {g : Goroutine} {Wg : Nat} {sh : Nat → Prop} {lo : Nat} {D : Nat → WS} {S F : Nat → Nat} {ps : Nat → Post} {b : Bool} {sl : Option (Nat × Nat)}

theorem mute_bk {e : Event} (h : e.mute = true) : BkE Wg e := by
  obtain ⟨loc, wri, sy⟩ := e
  cases loc with
  | mark m => cases m <;> simp_all [Event.mute, BkE]
  | _ => simp [Event.mute] at h

/-- An own step of a worker's. -/
theorem IV.stepOwn (I : IV P Fin gs w t σ n R g Wg sh lo D S F ps b) {i : Nat} (hi0 : 0 < i) (hi : i < gs.size) {a a' : Goroutine} {es : Array Event} (ha : gs[i]? = some a) {T T' : Perm} {m : Nat} (hD : D i = .work T) (hS : S i = 7) (hdf : Deaf t i = T.deaf)
    (hst : Stepped P false T a w T' a' w' es) (hj : JW P Wg (ps i) m T' a' w') (hfuel : m < F i) :
    ∃ m₁ ops μ', runT P (crowd gs w sl) i = (.next m₁, ops) ∧ Lt2 μ' (meas n b gs.size F) ∧ Inv P Fin μ' m₁ (t ++ ops) := by
  have hp : (D i).perm? = some T := by rw [hD]; rfl
  have hlT := I.com.lay.low i T hi hp
  have hkeep : ∀ j U, j ≠ i → j < gs.size → (D j).perm? = some U → Keeps U w w' := fun j U hj hjs hU => keeps_chg hst.chg (I.com.lay.dis i j T U (Ne.symm hj) hi hjs hp hU) (I.com.lay.low j U hjs hU)
  obtain ⟨hlo, gr, rfl, hgW, hsh, hposts, st, sm, hwg, hmode⟩ := I.member hi (by omega)
  have hex : upd S i 7 = S := by rw [← hS]; exact upd_self S i
  refine I.worker (ws := .work T') (s := 7) (m := m) hi0 hi ha hst.step hkeep (by rw [hdf, ← hst.deaf]; exact .work hj) (fun _ _ h => by cases h) ⟨fun h => by omega, fun h => by omega⟩ ?_ ?_ hfuel ?_
  · exact I.com.lay.own hi hD hst.within (hst.low hlT) hst.chg.size hkeep
  · refine I.com.ti.app I.com.lay hi hst.chg.size (fun j hj => upd_ne _ _ hj) (.inr ⟨T, T', hD, upd_same .., hst.within⟩) Go.ConcR.g_of_ofEvents (fun op hop bb hb => ?_) (fun op hop ad => ?_) (fun op hop bb hb => ?_) (fun T₁ r h => by rw [hD] at h; cases h)
    · obtain ⟨e, he, rfl⟩ := Go.Conc.mem_ofEvents hop
      exact Loc.low_mono hst.chg.size (inR_low hlT (ev_touch hlT.wr (hst.ev e he) hb).1)
    · obtain ⟨e, he, rfl⟩ := Go.Conc.mem_ofEvents hop
      exact ev_norel (hst.ev e he) ad
    · obtain ⟨e, he, rfl⟩ := Go.Conc.mem_ofEvents hop
      exact .inl ⟨T, hD, ev_touch hlT.wr (hst.ev e he) hb⟩
  · intro b' hb' _
    refine ⟨hgW, hsh, hposts, st, sm, hwg.chg hst.chg (I.com.lay.sh Wg hsh) fun o ho hw => I.com.lay.shy i T hi hp Wg o (hlT.wr _ _ hw) hsh ho, ?_⟩
    rw [hex]
    exact hmode.wake b' hb'
/-- It says its release. -/
theorem IV.stepRel (I : IV P Fin gs w t σ n R g Wg sh lo D S F ps b) {i : Nat} (hi0 : 0 < i) (hi : i < gs.size) {a a' : Goroutine} (ha : gs[i]? = some a) {T : Perm} {m : Nat} (hD : D i = .work T) (hS : S i = 7) (hdf : Deaf t i = T.deaf) (h0 : T.deaf = 0)
    (hok : (ps i).ok T w) (hst : stepG P false a w = .go a' w #[Go.ConcR.mk (.releaseMerge (stA Wg))]) (hj : JD P Wg m .k1 a') (hfuel : m < F i) :
    ∃ m₁ ops μ', runT P (crowd gs w sl) i = (.next m₁, ops) ∧ Lt2 μ' (meas n b gs.size F) ∧ Inv P Fin μ' m₁ (t ++ ops) := by
  have hp : (D i).perm? = some T := by rw [hD]; rfl
  obtain ⟨hlo, gr, rfl, hgW, hsh, hposts, st, sm, hwg, hmode⟩ := I.member hi (by omega)
  have hd0 : Deaf t i = 0 := hdf.trans h0
  have hsz : (t ++ MemOp.ofEvents i a.frame.fn a.frame.place #[Go.ConcR.mk (.releaseMerge (stA Wg))]).size = t.size + 1 := by rw [ofEvents_eq]; simp
  refine I.worker (ws := .rel T t.size) (s := 6) (m := m) hi0 hi ha hst (fun j U _ _ _ => Keeps.refl _ _) ?_ (fun T₁ r h => by cases h; exact hok) ⟨fun h => by omega, fun h => by omega⟩ ?_ ?_ hfuel ?_
  · rw [hd0]; exact .k1 hj
  · refine I.com.lay.same fun j hj => .inl ?_
    by_cases e : j = i
    · subst e; rw [upd_same, hD]; rfl
    · rw [upd_ne _ _ e]
  · refine TI.released (R := T) (k := i) (I.com.ti.app I.com.lay hi (Nat.le_refl _) (fun _ _ => rfl) (.inl rfl) Go.ConcR.g_of_ofEvents (fun op hop bb hb => ?_) (fun op hop ad => ?_) (fun op hop bb hb => ?_) (fun T₁ r h => by rw [hD] at h; cases h)) hi hi0 hD (RelBy.new hd0 _ _) (by omega)
    all_goals
      obtain ⟨e, he, rfl⟩ := Go.Conc.mem_ofEvents hop
      simp only [List.mem_toArray, List.mem_cons, List.not_mem_nil, or_false] at he
      subst he
    · exact absurd hb (by simp [Go.ConcR.mk, MemAct.ofEvent, MemAct.touch?])
    · simp [Go.ConcR.mk, MemAct.ofEvent]
    · exact absurd hb (by simp [Go.ConcR.mk, MemAct.ofEvent, MemAct.touch?])
  · intro b' hb' _
    exact ⟨hgW, hsh, hposts, st, sm, hwg, (hmode.goOn hlo hi (by omega) (.inr (.inl rfl))).wake b' hb'⟩
/-- It only leaves. -/
theorem IV.stepQuit (I : IV P Fin gs w t σ n R g Wg sh lo D S F ps b) {i : Nat} (hi0 : 0 < i) (hi : i < gs.size) {a : Goroutine} (ha : gs[i]? = some a) (hrun : a.status = .running) {k d : Nat} (hq : QuitsD P k d a) (hk : k ≤ F i) (hdf : Deaf t i = d)
    (hs : (∃ T r, D i = .rel T r ∧ S i = 1) ∨ (D i = .old ∧ S i = 0)) :
    ∃ m₁ ops μ', runT P (crowd gs w sl) i = (.next m₁, ops) ∧ Lt2 μ' (meas n b gs.size F) ∧ Inv P Fin μ' m₁ (t ++ ops) := by
  cases k with
  | zero => rw [hq.1] at hrun; cases hrun
  | succ k =>
    rcases hq with ⟨hf, _⟩ | ⟨_, a', es, hm, hst, hq'⟩
    · rw [hf] at hrun; cases hrun
    have hex : ∀ x, S i = x → upd S i x = S := fun x h => by rw [← h]; exact upd_self S i
    have hexD : ∀ x, D i = x → upd D i x = D := fun x h => by rw [← h]; exact upd_self D i
    have hgrp : ∀ x, S i = x → ∀ b', (b' = b ∨ b' = false) → (mayWake P a = true → b' = false) → GrpOk σ Wg sh lo gs.size (upd S i x) ps b' w := by
      intro x hx b' hb' _
      rw [hex x hx]
      have hg := I.grp
      cases σ with
      | wrk => exact hg.elim
      | idle =>
        refine ⟨hg.1, ?_⟩
        rcases hb' with rfl | rfl
        · exact hg.2
        · rfl
      | grp gr =>
        obtain ⟨h1, h2, h3, st, sm, h4, h5⟩ := hg
        exact ⟨h1, h2, h3, st, sm, h4, h5.wake b' hb'⟩
    have htouch : ∀ e ∈ es, (MemAct.ofEvent e).touch? = none := fun e he => touch_mute (hm e he)
    have hti : TI Wg sh D gs.size w.heap.size (t ++ MemOp.ofEvents i a.frame.fn a.frame.place es) := by
      refine I.com.ti.app I.com.lay hi (Nat.le_refl _) (fun _ _ => rfl) (.inl rfl) Go.ConcR.g_of_ofEvents (fun op hop bb hb => ?_) (fun op hop ad => ?_) (fun op hop bb hb => ?_) (fun T₁ r h => ?_)
      · obtain ⟨e, he, rfl⟩ := Go.Conc.mem_ofEvents hop
        rw [htouch e he] at hb; cases hb
      · obtain ⟨e, he, rfl⟩ := Go.Conc.mem_ofEvents hop
        exact bkE_norel (Wg := Wg) (mute_bk (hm e he)) ad
      · obtain ⟨e, he, rfl⟩ := Go.Conc.mem_ofEvents hop
        rw [htouch e he] at hb; cases hb
      · exact (I.com.ti.relb i T₁ r hi h).appOwn _ _ _ fun j e he => .inl (htouch e (Array.mem_of_getElem? he))
    rcases hs with ⟨T, r, hD, hS⟩ | ⟨hD, hS⟩
    · refine I.worker (ws := .rel T r) (s := 1) (m := k) hi0 hi ha (hst w) (fun j U _ _ _ => Keeps.refl _ _) (by rw [hdf]; exact .gone hq') (fun T₁ r' h => by cases h; exact I.com.post i T r hi hD) ⟨fun h => by omega, fun h => by omega⟩ ?_ ?_ (by omega) (hgrp 1 hS)
      · rw [hexD _ hD]; exact I.com.lay
      · rw [hexD _ hD]; exact hti
    · refine I.worker (ws := .old) (s := 0) (m := k) hi0 hi ha (hst w) (fun j U _ _ _ => Keeps.refl _ _) (by rw [hdf]; exact .old hq') (fun T₁ r' h => by cases h) ⟨fun h => hS, fun h => rfl⟩ ?_ ?_ (by omega) (hgrp 0 hS)
      · rw [hexD _ hD]; exact I.com.lay
      · rw [hexD _ hD]; exact hti
end
end Go.AM
/-
  A STEP OF A GOROUTINE THAT IS NOT THE STARTER: all kinds.
-/
set_option linter.unusedVariables false
set_option linter.unusedSimpArgs false
namespace Go.AM
open Go Go.Conc
open Go.ConcN (RelBy upd upd_same upd_ne sumTo)
open Go.ConcR (stA smA KK rd wr)

section
variable {P : Program} {Fin : Value → World → Prop} {gs : Array Goroutine} {w w' : World} {t : Trace} {σ : GSt} {n : Nat} {R : Perm} {g : Goroutine} {Wg : Nat} {sh : Nat → Prop} {lo : Nat} {D : Nat → WS} {S F : Nat → Nat} {ps : Nat → Post} {b : Bool} {sl : Option (Nat × Nat)}

theorem ev_dis {d : Nat} : ∀ (j : Nat) (e : Event), (#[Go.ConcR.mk .disable] : Array Event)[j]? = some e → BkE Wg e ∧ ((MemAct.ofEvent e).touch? = none ∨ 0 < deafBehind d ((#[Go.ConcR.mk .disable] : Array Event).extract 0 j)) := by
  intro j e h
  have he : e ∈ (#[Go.ConcR.mk .disable] : Array Event) := Array.mem_of_getElem? h
  simp only [List.mem_toArray, List.mem_cons, List.not_mem_nil, or_false] at he
  subst he
  exact ⟨.inl rfl, .inl rfl⟩
theorem ev_sem : ∀ (j : Nat) (e : Event), (semEvents (smA Wg))[j]? = some e → BkE Wg e ∧ ((MemAct.ofEvent e).touch? = none ∨ 0 < deafBehind 1 ((semEvents (smA Wg)).extract 0 j)) := by
  intro j e h
  have hj : j < 4 := by
    have := (Array.getElem?_eq_some_iff.1 h).1
    simpa [semEvents] using this
  match j, hj with
  | 0, _ => simp [semEvents] at h; subst h; exact ⟨.inl rfl, .inl rfl⟩
  | 1, _ => simp [semEvents] at h; subst h; exact ⟨bk_sm Wg false, .inr (by simp [semEvents, deafBehind])⟩
  | 2, _ => simp [semEvents] at h; subst h; exact ⟨bk_sm Wg true, .inr (by simp [semEvents, deafBehind])⟩
  | 3, _ => simp [semEvents] at h; subst h; exact ⟨.inr (.inl rfl), .inl rfl⟩
theorem ev_rdwr {es : Array Event} (h : ∀ e ∈ es, e = rd (stA Wg) ∨ e = wr (stA Wg)) : ∀ (j : Nat) (e : Event), es[j]? = some e → BkE Wg e ∧ ((MemAct.ofEvent e).touch? = none ∨ 0 < deafBehind 1 (es.extract 0 j)) :=
  ev_list (fun e he => (h e he).elim (fun x => x ▸ bk_st Wg false) fun x => x ▸ bk_st Wg true) (by omega) fun e he => (h e he).elim (fun x => by rw [x]; simp [rd]) fun x => by rw [x]; simp [wr]
theorem deaf_rdwr {es : Array Event} (h : ∀ e ∈ es, e = rd (stA Wg) ∨ e = wr (stA Wg)) (d : Nat) : deafBehind d es = d := by
  have := deafBehind_none d es.toList fun e he => (h e (by simpa using he)).elim (fun x => by rw [x]; simp [rd]) fun x => by rw [x]; simp [wr]
  simpa using this

set_option maxHeartbeats 1000000 in
/-- A STEP OF A GOROUTINE THAT IS NOT THE STARTER. -/
theorem IV.stepW (I : IV P Fin gs w t σ n R g Wg sh lo D S F ps b) {i : Nat} (hi0 : 0 < i) (hi : i < gs.size) {a : Goroutine} (ha : gs[i]? = some a) (hrun : a.status = .running) :
    ∃ m₁ ops μ', runT P (crowd gs w sl) i = (.next m₁, ops) ∧ Lt2 μ' (meas n b gs.size F) ∧ Inv P Fin μ' m₁ (t ++ ops) := by
  obtain ⟨a₀, ha₀, hs⟩ := I.com.wk i hi0 hi
  obtain rfl : a = a₀ := by rw [ha] at ha₀; exact Option.some.inj ha₀
  clear ha₀
  generalize hD : D i = ws at hs
  generalize hS : S i = s at hs
  generalize hF : F i = f at hs
  generalize hdf : Deaf t i = d at hs
  cases hs with
  | work hj =>
    obtain ⟨m, hm, _, hw⟩ := hj.out
    obtain ⟨_, gr, _, _, hsh, _, st, sm, hwg, _⟩ := I.member hi (by omega)
    cases hw ⟨st, sm, hwg⟩ with
    | own h1 h2 => exact I.stepOwn hi0 hi ha hD hS hdf h1 h2 (by omega)
    | rel h1 h2 h3 h4 => exact I.stepRel hi0 hi ha hD hS hdf h1 h2 h3 h4 (by omega)
  | gone hq => exact I.stepQuit hi0 hi ha hrun hq (by omega) hdf (.inl ⟨_, _, hD, hS⟩)
  | old hq => exact I.stepQuit hi0 hi ha hrun hq (by omega) hdf (.inr ⟨hD, hS⟩)
  | k1 hj =>
    obtain ⟨hlo, gr, rfl, hgW, hsh, hposts, st, sm, hwg, hmode⟩ := I.member hi (by omega)
    cases f with
    | zero => exact hj.elim
    | succ m =>
      have hex : upd S i 6 = S := by rw [← hS]; exact upd_self S i
      cases hj.2 w ⟨st, sm, hwg⟩ with
      | quiet h1 h2 =>
        exact I.bookW (s := 6) (m := m) hi0 hi ha h1 hD (fun _ _ _ _ => Keeps.refl _ _) rfl hsh (ev_none _) (by rw [hdf]; exact .k1 h2) (by omega) (by omega) (by omega)
          fun b' hb' _ => ⟨hgW, hsh, hposts, st, sm, hwg, by rw [hex]; exact hmode.wake b' hb'⟩
      | k1 h1 h2 =>
        exact I.bookW (s := 5) (m := m) hi0 hi ha h1 hD (fun _ _ _ _ => Keeps.refl _ _) rfl hsh ev_dis (by rw [hdf]; exact .d1 h2) (by omega) (by omega) (by omega)
          fun b' hb' _ => ⟨hgW, hsh, hposts, st, sm, hwg, (hmode.goOn hlo hi (by omega) (.inr (.inr rfl))).wake b' hb'⟩
  | d1 hj =>
    obtain ⟨hlo, gr, rfl, hgW, hsh, hposts, st, sm, hwg, hmode⟩ := I.member hi (by omega)
    cases f with
    | zero => exact hj.elim
    | succ m =>
      have hex : upd S i 5 = S := by rw [← hS]; exact upd_self S i
      cases hj.2 w ⟨st, sm, hwg⟩ with
      | quiet h1 h2 =>
        exact I.bookW (s := 5) (m := m) hi0 hi ha h1 hD (fun _ _ _ _ => Keeps.refl _ _) rfl hsh (ev_none _) (by rw [hdf]; exact .d1 h2) (by omega) (by omega) (by omega)
          fun b' hb' _ => ⟨hgW, hsh, hposts, st, sm, hwg, by rw [hex]; exact hmode.wake b' hb'⟩
      | d1 h1 =>
        obtain ⟨v, wt, hwt, hv, rfl, rfl, hlast, hnot⟩ := hmode.minus hlo hi hS
        obtain ⟨a', h2, h3, h4⟩ := h1 v wt hwt hv hwg
        have hk : ∀ j U, j < gs.size → (D j).perm? = some U → Keeps U w (setSt Wg ((v : Int) * KK + wt) w) := fun j U hj hU => keeps_setSt (I.com.lay.low j U hj hU) (fun o ho hr => I.com.lay.shy j U hj hU Wg o hr hsh ho) hwg
        have hrw : ∀ e ∈ (#[rd (stA Wg), wr (stA Wg)] : Array Event), e = rd (stA Wg) ∨ e = wr (stA Wg) := by intro e he; simpa using he
        by_cases hc : v = 0 ∧ wt = 1
        · exact I.bookW (s := 4) (m := m) hi0 hi ha h2 hD hk (size_setCell ..) hsh (by rw [hdf]; exact ev_rdwr hrw) (by rw [hdf, deaf_rdwr hrw]; exact .d2 (h3 hc)) (by omega) (by omega) (by omega)
            fun b' hb' _ => ⟨hgW, hsh, hposts, _, _, hwg.setSt _, (hlast hc).wake b' hb'⟩
        · exact I.bookW (s := 1) (m := m) hi0 hi ha h2 hD hk (size_setCell ..) hsh (by rw [hdf]; exact ev_rdwr hrw) (by rw [hdf, deaf_rdwr hrw]; exact .gone (h4 hc)) (by omega) (by omega) (by omega)
            fun b' hb' _ => ⟨hgW, hsh, hposts, _, _, hwg.setSt _, (hnot hc).wake b' hb'⟩
  | d2 hj =>
    obtain ⟨hlo, gr, rfl, hgW, hsh, hposts, st, sm, hwg, hmode⟩ := I.member hi (by omega)
    obtain ⟨hreg, hoth, rfl, rfl⟩ := hmode.isLast hlo hi (by omega)
    cases f with
    | zero => exact hj.elim
    | succ m =>
      have hex : upd S i 4 = S := by rw [← hS]; exact upd_self S i
      cases hj.2 w ⟨_, _, hwg⟩ with
      | quiet h1 h2 =>
        exact I.bookW (s := 4) (m := m) hi0 hi ha h1 hD (fun _ _ _ _ => Keeps.refl _ _) rfl hsh (ev_none _) (by rw [hdf]; exact .d2 h2) (by omega) (by omega) (by omega)
          fun b' hb' _ => ⟨hgW, hsh, hposts, _, _, hwg, by rw [hex]; exact hmode.wake b' hb'⟩
      | d2 h1 =>
        rw [hS] at hwg
        obtain ⟨a', h2, h3⟩ := h1 hwg
        have hrw : ∀ e ∈ (#[rd (stA Wg)] : Array Event), e = rd (stA Wg) ∨ e = wr (stA Wg) := by intro e he; simp at he; exact .inl he
        refine I.bookW (s := 3) (m := m) hi0 hi ha h2 hD (fun _ _ _ _ => Keeps.refl _ _) rfl hsh (by rw [hdf]; exact ev_rdwr hrw) (by rw [hdf, deaf_rdwr hrw]; exact .d3 h3) (by omega) (by omega) (by omega)
          fun b' hb' _ => ⟨hgW, hsh, hposts, _, _, hwg, ?_⟩
        have : Mode lo gs.size (upd S i 3) .reg b' (if upd S i 3 i = 2 then 0 else 1) 0 := .last i hlo hi (by rw [upd_same]; simp) fun a h1 h2 h3 => by rw [upd_ne _ _ h3]; exact hoth a h1 h2 h3
        rw [upd_same] at this
        rw [hreg]
        exact this
  | d3 hj =>
    obtain ⟨hlo, gr, rfl, hgW, hsh, hposts, st, sm, hwg, hmode⟩ := I.member hi (by omega)
    obtain ⟨hreg, hoth, rfl, rfl⟩ := hmode.isLast hlo hi (by omega)
    cases f with
    | zero => exact hj.elim
    | succ m =>
      have hex : upd S i 3 = S := by rw [← hS]; exact upd_self S i
      cases hj.2 w ⟨_, _, hwg⟩ with
      | quiet h1 h2 =>
        exact I.bookW (s := 3) (m := m) hi0 hi ha h1 hD (fun _ _ _ _ => Keeps.refl _ _) rfl hsh (ev_none _) (by rw [hdf]; exact .d3 h2) (by omega) (by omega) (by omega)
          fun b' hb' _ => ⟨hgW, hsh, hposts, _, _, hwg, by rw [hex]; exact hmode.wake b' hb'⟩
      | d3 h1 =>
        rw [hS] at hwg
        obtain ⟨a', h2, h3⟩ := h1 hwg
        have hk : ∀ j U, j < gs.size → (D j).perm? = some U → Keeps U w (setSt Wg 0 w) := fun j U hj hU => keeps_setSt (I.com.lay.low j U hj hU) (fun o ho hr => I.com.lay.shy j U hj hU Wg o hr hsh ho) hwg
        have hrw : ∀ e ∈ (#[wr (stA Wg)] : Array Event), e = rd (stA Wg) ∨ e = wr (stA Wg) := by intro e he; simp at he; exact .inr he
        refine I.bookW (s := 2) (m := m) hi0 hi ha h2 hD hk (size_setCell ..) hsh (by rw [hdf]; exact ev_rdwr hrw) (by rw [hdf, deaf_rdwr hrw]; exact .d4 h3) (by omega) (by omega) (by omega)
          fun b' hb' _ => ⟨hgW, hsh, hposts, _, _, hwg.setSt _, ?_⟩
        have : Mode lo gs.size (upd S i 2) .reg b' (if upd S i 2 i = 2 then 0 else 1) 0 := .last i hlo hi (by rw [upd_same]; simp) fun a h1 h2 h3 => by rw [upd_ne _ _ h3]; exact hoth a h1 h2 h3
        rw [upd_same] at this
        rw [hreg]
        exact this
  | d4 hj =>
    obtain ⟨hlo, gr, rfl, hgW, hsh, hposts, st, sm, hwg, hmode⟩ := I.member hi (by omega)
    obtain ⟨hreg, hoth, rfl, rfl⟩ := hmode.isLast hlo hi (by omega)
    cases f with
    | zero => exact hj.elim
    | succ m =>
      have hex : upd S i 2 = S := by rw [← hS]; exact upd_self S i
      cases hj.2 w ⟨_, _, hwg⟩ with
      | quiet h1 h2 =>
        exact I.bookW (s := 2) (m := m) hi0 hi ha h1 hD (fun _ _ _ _ => Keeps.refl _ _) rfl hsh (ev_none _) (by rw [hdf]; exact .d4 h2) (by omega) (by omega) (by omega)
          fun b' hb' _ => ⟨hgW, hsh, hposts, _, _, hwg, by rw [hex]; exact hmode.wake b' hb'⟩
      | d4 hmw h1 =>
        rw [hS] at hwg
        obtain ⟨a', h2, h3⟩ := h1 hwg
        have hk : ∀ j U, j < gs.size → (D j).perm? = some U → Keeps U w (setSm Wg 1 w) := fun j U hj hU => keeps_setSm (I.com.lay.low j U hj hU) (fun o ho hr => I.com.lay.shy j U hj hU Wg o hr hsh ho) hwg
        refine I.bookW (s := 1) (m := m) hi0 hi ha h2 hD hk (size_setCell ..) hsh (by rw [hdf]; exact ev_sem) (by rw [hdf, deafB_sem]; exact .gone h3) (by omega) (by omega) (by omega)
          fun b' hb' hw' => ⟨hgW, hsh, hposts, _, _, hwg.setSm _, ?_⟩
        rw [hw' hmw, hreg]
        refine .sema fun x h1 h2 => ?_
        by_cases e : x = i
        · subst e; rw [upd_same]
        · rw [upd_ne _ _ e]; exact hoth x h1 h2 e
end
end Go.AM
