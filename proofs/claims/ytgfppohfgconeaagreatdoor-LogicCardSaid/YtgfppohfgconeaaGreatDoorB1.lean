/-
  WHAT THE LISTED VARIABLES GIVE: block 0 holds the spellings.
-/
import Derived.Test.YtgfppohfgconeaaGreatDoorA9
import Derived.ChangeFn
import Derived.ProofKit
import Derived.SizedLaws
import Derived.Handed
import Derived.RowKit
set_option linter.unusedVariables false
set_option linter.unusedSimpArgs false
set_option maxRecDepth 1000000
namespace Go.AM
open Go Go.Conc Go.Proofs Go.Proofs.YtgfppohfgconeaaGreatDoor

theorem laidVars_mem {P : Program} {w : World} : ∀ {laid : List (String × DataW Unit)} {ps : List MemPlace}, DataW.LaidVars P w laid ps → ∀ x ∈ laid, ∃ g t cs fuel p, P.globalNamed x.1 = some g ∧ (P.globals[g]?).map (·.type) = some t ∧ w.var? P x.1 = some cs ∧
    DataW.trod (fun _ => ()) P w 0 (fun _ => true) false fuel t cs.toList = some (x.2, p)
  | [], ps, h, x, hx => by cases hx
  | (n, d) :: r, ps, h, x, hx => by
    obtain ⟨g, t, cs, fuel, p, q, h1, h2, h3, h4, h5, h6⟩ := h
    rcases List.mem_cons.1 hx with rfl | hx
    · exact ⟨g, t, cs, fuel, p, h1, h2, h3, h4⟩
    · exact laidVars_mem h5 x hx
theorem mapM_at {α β : Type} {f : α → Option β} : ∀ {l : List α} {xs : List β}, l.mapM f = some xs → ∀ (i : Nat) a, l[i]? = some a → ∃ x, f a = some x ∧ xs[i]? = some x
  | [], xs, h, i, a, hi => by cases i <;> cases hi
  | b :: l, xs, h, i, a, hi => by
    rw [List.mapM_cons] at h
    cases hb : f b with
    | none => rw [hb] at h; cases h
    | some y =>
      rw [hb] at h
      cases hr : l.mapM f with
      | none => rw [hr] at h; cases h
      | some ys =>
        rw [hr] at h
        have h : some (y :: ys) = some xs := h
        cases h
        cases i with
        | zero =>
          have : b = a := by simpa using hi
          subst this
          exact ⟨y, hb, rfl⟩
        | succ i => exact mapM_at hr i a (by simpa using hi)
/-- A row of texts. -/
theorem strings_of_trod {P : Program} {w : World} {fuel n : Nat} {t e : TypeId} {cs : List Value} {L : List (DataW Unit)} {p : List MemPlace} (ht : P.underlying t = some (.array n e)) (he : P.underlying e = some .string) (hc : P.cellsOf e = 1)
    (h : DataW.trod (fun _ => ()) P w 0 (fun _ => true) false fuel t cs = some (.agg L, p)) : cs.length = P.cellsOf t ∧ ∀ i, i < n → ∃ s : ByteArray, cs[i]? = some (.string s) ∧ L[i]? = some (.lit (.string s.data.toList)) := by
  cases fuel with
  | zero => simp [DataW.trod] at h
  | succ fuel =>
    unfold DataW.trod at h
    rw [ht] at h
    simp only [] at h
    split at h
    · rename_i hlen
      refine ⟨hlen, fun i hi => ?_⟩
      obtain ⟨xs, hxs, h2⟩ := Option.map_eq_some_iff.1 h
      simp only [Prod.mk.injEq, DataW.agg.injEq] at h2
      obtain ⟨x, hx, hx2⟩ := mapM_at hxs i i (by rw [List.getElem?_range hi])
      have hL : L[i]? = some x.1 := by rw [← h2.1, List.getElem?_map, hx2]; rfl
      rw [hc, Nat.mul_one] at hx
      cases hcs : cs[i]? with
      | none =>
        exfalso
        have hd : (cs.drop i).take 1 = [] := by
          rw [List.drop_eq_nil_of_le (List.getElem?_eq_none_iff.1 hcs)]
          rfl
        rw [hd] at hx
        cases fuel with
        | zero => simp [DataW.trod] at hx
        | succ fuel => simp [DataW.trod, he] at hx
      | some c =>
        have hd : (cs.drop i).take 1 = [c] := by
          obtain ⟨hlt, hv⟩ := List.getElem?_eq_some_iff.1 hcs
          rw [List.drop_eq_getElem_cons hlt, hv]
          rfl
        rw [hd] at hx
        cases fuel with
        | zero => simp [DataW.trod] at hx
        | succ fuel =>
          unfold DataW.trod at hx
          rw [he] at hx
          cases c with
          | string s =>
            simp only [] at hx
            split at hx
            · simp only [Option.some.injEq] at hx
              exact ⟨s, rfl, by rw [hL, ← hx]⟩
            · cases hx
          | _ => simp at hx
    · cases h
theorem spell_of_laid {W : World} (h : laidMetH Tryz.prog Rows.logicRow.laid W) : ∃ C ty fr, W.heap[0]? = some (.cells C ty fr) ∧ spell0.length ≤ C.size ∧ ∀ (o : Nat) v, spell0[o]? = some (some v) → C[o]? = some v := by
  have hf : (Rows.logicRow.laid.filter fun x => x.2.handleName?.isSome) = [] := by kernel_rfl
  unfold laidMetH at h
  rw [hf] at h
  obtain ⟨ps, hv, _⟩ := h
  obtain ⟨g, t, cs, fuel, p, h1, h2, h3, h4⟩ := laidVars_mem hv ("lineage/words.spellings", Rows.laid_lineage_words_spellings) (by
    show _ ∈ [_, _, _, _, _, _, _, _, _, _, _]
    simp)
  have e1 : Tryz.prog.globalNamed "lineage/words.spellings" = some 0 := by kernel_rfl
  have h1 : Tryz.prog.globalNamed "lineage/words.spellings" = some g := h1
  rw [e1] at h1
  cases h1
  have e2 : (Tryz.prog.globals[0]?).map (·.type) = some 236 := by kernel_rfl
  rw [e2] at h2
  cases h2
  have h4 : DataW.trod (fun _ => ()) Tryz.prog W 0 (fun _ => true) false fuel 236 cs.toList = some (Rows.laid_lineage_words_spellings, p) := h4
  have hL : ∃ L, Rows.laid_lineage_words_spellings (H := Unit) = .agg L := ⟨_, rfl⟩
  obtain ⟨L, hL⟩ := hL
  rw [hL] at h4
  obtain ⟨k1, k2⟩ := strings_of_trod (n := 47) (e := 9) (by kernel_rfl) (by kernel_rfl) (by kernel_rfl) h4
  have e3 : Tryz.prog.cellsOf 236 = 47 := by kernel_rfl
  have e4 : spell0.length = 47 := by kernel_rfl
  rw [e3] at k1
  have h3 : W.var? Tryz.prog "lineage/words.spellings" = some cs := h3
  unfold World.var? at h3
  rw [e1] at h3
  simp only [Option.bind_some] at h3
  split at h3
  · rename_i C ty fr hC
    cases h3
    refine ⟨cs, ty, fr, hC, by rw [e4]; simp at k1; omega, fun o v ho => ?_⟩
    have ho' : o < 47 := by
      rw [← e4]
      exact (List.getElem?_eq_some_iff.1 ho).1
    obtain ⟨s, s1, s2⟩ := k2 o ho'
    have e5 : spell0 = L.map fun d => match d with | .lit (.string s) => some (.string ⟨s.toArray⟩) | _ => none := by
      unfold spell0
      rw [hL]
      rfl
    rw [e5, List.getElem?_map, s2] at ho
    simp only [Option.map_some, Option.some.injEq, Array.toArray_toList] at ho
    rw [Array.getElem?_toList] at s1
    rw [s1, ← ho]
  · cases h3
theorem size_of_laid {W : World} (h : laidMetH Tryz.prog Rows.logicRow.laid W) : 12 ≤ W.heap.size := by
  have hf : (Rows.logicRow.laid.filter fun x => x.2.handleName?.isSome) = [] := by kernel_rfl
  unfold laidMetH at h
  rw [hf] at h
  obtain ⟨ps, hv, _⟩ := h
  obtain ⟨g, t, cs, fuel, p, h1, h2, h3, h4⟩ := laidVars_mem hv ("math/bits.deBruijn64tab", Rows.laid_math_bits_deBruijn64tab) (by
    show _ ∈ [_, _, _, _, _, _, _, _, _, _, _]
    simp)
  have e1 : Tryz.prog.globalNamed "math/bits.deBruijn64tab" = some 11 := by kernel_rfl
  have h3 : W.var? Tryz.prog "math/bits.deBruijn64tab" = some cs := h3
  unfold World.var? at h3
  rw [e1] at h3
  simp only [Option.bind_some] at h3
  split at h3
  · rename_i C ty fr hC
    have := (Array.getElem?_eq_some_iff.1 hC).1
    omega
  · cases h3
end Go.AM
/-
  'Logic': one good run at every start.
-/
set_option linter.unusedVariables false
set_option linter.unusedSimpArgs false
set_option maxRecDepth 1000000
namespace Go.AM
open Go Go.Conc Go.ConcM Go.Proofs Go.Proofs.YtgfppohfgconeaaGreatDoor Go.ChangeShapes

theorem wf_inI {n : Int} (h : (Lit.int .i64 n).wf = true) : inI n := by
  have h : (decide (IntKind.i64.min ≤ n) && decide (n ≤ IntKind.i64.max)) = true := h
  rw [Bool.and_eq_true] at h
  have h1 := of_decide_eq_true h.1
  have h2 := of_decide_eq_true h.2
  have e1 : IntKind.i64.min = -9223372036854775808 := by decide
  have e2 : IntKind.i64.max = 9223372036854775807 := by decide
  rw [e1] at h1
  rw [e2] at h2
  exact ⟨h1, by omega⟩
theorem logic_run {rs : List Row} (hrs : ∀ r ∈ krow :: rs, r.fact Ct = true ∧ bodied Tryz.prog r.f = true) (hR : LoopOk rs) {x y z : Int} (hx : inI x) (hy : inI y) (hz : inI z) {W : World} (hL : laidMetH Tryz.prog Rows.logicRow.laid W) (Fin : Value → World → Prop)
    (hFin : ∀ w', Keeps (oldE W) W w' → Fin (.bool true) w') :
    ∃ M last o w' t', runNT Tryz.prog (M + 1) (solo (G (Frame.enter Tryz.prog 7 #[.int .i64 x, .int .i64 y, .int .i64 z] .normal) []) W) #[] = (.ended o w', t') ∧ runN Tryz.prog M (solo (G (Frame.enter Tryz.prog 7 #[.int .i64 x, .int .i64 y, .int .i64 z] .normal) []) W) = .next last ∧
      step Tryz.prog last = .ended o w' ∧ Conc.Good Tryz.prog Fin last o w' t' := by
  obtain ⟨C, ty, fr, h0, hC, hv⟩ := spell_of_laid hL
  have H := start_hold (size_of_laid hL) h0 hC hv
  obtain ⟨m', hbody, hd, hw⟩ := logic_abs hR hx hy hz
  have e1 : Tryz.f7.ntmps = 216 := by kernel_rfl
  have e2 : Tryz.f7.results.toList = rsT 7 := by kernel_rfl
  have e3 : Tryz.f7.body = some (codeT 7) := by kernel_rfl
  have hcomp : comp Tryz.prog Tryz.f7.ntmps 1000 (codeT 7) = some bL := by rw [e1]; exact l_comp
  have hbody' : bodyF Tryz.prog X0 Tryz.f7.ntmps Tryz.f7.results.toList bL (callL rs) [.int .i64 x, .int .i64 y, .int .i64 z] m00 = some (.bool true, m') := by rw [e1, e2]; exact hbody
  obtain ⟨c, hj⟩ := end_real (Fin := Fin) fine_tryz frel_mv (callL_ok hrs) Tryz.func7 e3 (by rw [e1]; decide) hcomp wf_m00 hbody' hd hw (by kernel_rfl)
  have hJ := hj #[.int .i64 x, .int .i64 y, .int .i64 z] H ⟨(vrel_same rfl).2 rfl, (vrel_same rfl).2 rfl, (vrel_same rfl).2 rfl, trivial⟩ fun ρ' v' w' H' hv' => by
    have e : v' = .bool true := (vrel_same rfl).1 hv'
    subst e
    exact hFin w' H'.rest
  exact machine_ends hJ H.low rfl
section
variable {H : Type} {enc : TypeId × Value → H}
theorem logic_lifted {rs : List Row} (hrs : ∀ r ∈ krow :: rs, r.fact Ct = true ∧ bodied Tryz.prog r.f = true) (hR : LoopOk rs) (os : Os) (started : os.Started) (F : Stop.Interp)
    (witness : ∃ (w : World) (tape : Tape) (i : Input), w.os = os ∧ (w.forCall tape i).Shaped Tryz.checked.prog ∧ i.vars = [] ∧ Input.okWide Tryz.checked.prog (w.forCall tape i) .any w.heap.size 7 i ∧
      Rows.logicRow.pre enc Tryz.prog Tryz.f7 (OpenSpec.ofChange Rows.logicSpec) (w.forCall tape i).memory i.args ∧ Rows.logicRow.assume.holds Tryz.checked.prog (lone (Frame.enter Tryz.checked.prog 7 i.args .normal) [] (w.forCall tape i))) :
    ReturnsInLeavingWide Rows.logicRow.assume Tryz.checked os 7 .any (Rows.logicRow.pre enc Tryz.prog Tryz.f7 (OpenSpec.ofChange Rows.logicSpec))
      ((OpenSpec.ofChange Rows.logicSpec).postWith enc Tryz.prog Tryz.f7 F (outsideKept [.timePasses]) Rows.logicRow.apart Rows.logicRow.fresh Rows.logicRow.handsOn) := by
  refine returnsInLeavingWide_of_good (by kernel_rfl) started witness ?_
  intro w tape i _ _ _ hok hpre _
  obtain ⟨_, _, _, fn', hfn', _, _, _, _, hval⟩ := hok
  have e : fn' = Tryz.f7 := Option.some.inj (hfn'.symm.trans Tryz.func7)
  subst e
  obtain ⟨⟨hp, hlaid⟩, hz⟩ := hpre
  obtain ⟨ds, gs, before, hw, hc⟩ := hp
  obtain ⟨W, hW⟩ : ∃ W, W = w.forCall tape i := ⟨_, rfl⟩
  rw [← hW] at hval hw hlaid ⊢
  have hw' := DataW.Whole.of_heap (w' := W) (by rfl) hw
  have hL : laidMetH Tryz.prog Rows.logicRow.laid W := laidMetH.of_heap (by rfl) hlaid
  have hw'' := hw'
  obtain ⟨p, q, hA0, hV0, rfl, hfz, hnd⟩ := hw''
  have hA : DataW.TrodAll enc Tryz.prog W 0 (fun _ => true) true Tryz.f7.params.toList i.args.toList ds p := hA0
  have hV : DataW.TrodVars enc Tryz.prog W (fun _ => true) [] gs q := hV0
  rw [Tryz.params7] at hA hval
  obtain ⟨v0, v1, v2, d0, d1, d2, p0, p1, p2, ha, rfl, _, t0, t1, t2⟩ := trodAll_three hA
  rw [ha] at hval
  obtain ⟨x, rfl, rfl, _, hx⟩ := open_int Tryz.underlying3 (hval 0 3 v0 rfl rfl) t0
  obtain ⟨y, rfl, rfl, _, hy⟩ := open_int Tryz.underlying3 (hval 1 3 v1 rfl rfl) t1
  obtain ⟨z, rfl, rfl, _, hz'⟩ := open_int Tryz.underlying3 (hval 2 3 v2 rfl rfl) t2
  obtain ⟨rfl, rfl⟩ := trodVars_none hV
  obtain ⟨N, last, o, w', t', h1, h2, h3, h4⟩ := logic_run hrs hR (wf_inI hx) (wf_inI hy) (wf_inI hz') hL
    (fun v W' => Rows.logicSpec.post enc Tryz.prog Tryz.f7 Rows.logicRow.apart Rows.logicRow.fresh Rows.logicRow.handsOn false W #[.int .i64 x, .int .i64 y, .int .i64 z] v { W' with os := W.os } ∧ OsLater W.os W'.os) fun w' hk => by
      have g1 : DataW.Whole enc Tryz.prog Tryz.f7.params.toList Rows.logicSpec.vars Rows.logicRow.apart W #[Value.int .i64 x, Value.int .i64 y, Value.int .i64 z].toList [.lit (.int .i64 x), .lit (.int .i64 y), .lit (.int .i64 z)] [] (p ++ []) := by
        rw [ha] at hw'; exact hw'
      have g3 : DataW.TrodAll enc Tryz.prog { w' with os := W.os } 0 (fun b => decide (b < W.heap.size)) true Tryz.f7.params.toList #[Value.int .i64 x, Value.int .i64 y, Value.int .i64 z].toList [.lit (.int .i64 x), .lit (.int .i64 y), .lit (.int .i64 z)] ([] ++ ([] ++ [])) := by
        rw [Tryz.params7]
        exact trodAll_mk3 (shut_int Tryz.underlying3 hx) (shut_int Tryz.underlying3 hy) (shut_int Tryz.underlying3 hz')
      have g5 : W.keptBut { w' with os := W.os } (fun q => q ∈ p ++ [] ∧ (q ∈ ([] : List MemPlace) ∨ q ∈ ([] ++ ([] ++ []) : List MemPlace) ∨ q ∈ ([] : List MemPlace))) := kept_of hk _
      refine ⟨⟨_, _, _, [], _, [], g1, ?_, g3, rfl, g5, fun h => by cases h⟩, by rw [hk.os]; exact OsLater.refl _⟩
      exact trodAll_mk1 ⟨1, by simp [DataW.trod, Value.cells, Tryz.underlying4]⟩
  obtain ⟨v, e, hp, r1, r2, r3, r4⟩ := h4
  rw [ha]
  exact ⟨N, last, o, w', t', h1, h2, h3, v, e, postWith_blind (postWith_of_post hp.1 hp.2), r1, r2, r3, r4⟩
end
end Go.AM
