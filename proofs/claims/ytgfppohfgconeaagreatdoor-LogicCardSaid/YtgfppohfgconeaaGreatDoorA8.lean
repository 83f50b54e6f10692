/-
  THE MEMORY AT THE START; what 'spelled' yields of the words that are asked ('sp_table').
-/
import Derived.Test.YtgfppohfgconeaaGreatDoorA7
import Derived.Test.YtgfppohfgconeaaGreatDoorRows
set_option linter.unusedVariables false
set_option linter.unusedSimpArgs false
set_option maxRecDepth 1000000
namespace Go.AM
open Go Go.Conc Go.Proofs Go.Proofs.YtgfppohfgconeaaGreatDoor

def spellOf : DataW Unit → List (Option Value)
  | .agg l => l.map fun d => match d with | .lit (.string s) => some (.string ⟨s.toArray⟩) | _ => none
  | _ => []
def spell0 : List (Option Value) := spellOf Rows.laid_lineage_words_spellings
/-- At the start: the globals alone; of use is the first. -/
def m00 : Mem := { heap := Heap.put [] 0 { kind := 1, cs := spell0 }, next := 12, tick := 1, base := 12, home := 12, floor := 12, opn := [], hid := [], wg := none, pend := [], deaf := 0 }
def eqBytes : List UInt8 → List UInt8 → Bool
  | [], [] => true
  | a :: l, b :: r => Nat.beq a.toNat b.toNat && eqBytes l r
  | _, _ => false
theorem eqBytes_eq : ∀ {l r : List UInt8}, eqBytes l r = true → l = r
  | [], [], _ => rfl
  | a :: l, b :: r, h => by
    unfold eqBytes at h
    rw [Bool.and_eq_true] at h
    rw [UInt8.toNat_inj.1 (Nat.eq_of_beq_eq_true h.1), eqBytes_eq h.2]
  | [], _ :: _, h => by cases h
  | _ :: _, [], h => by cases h
def eqCs : List (Option Value) → List (Option Value) → Bool
  | [], [] => true
  | x :: l, y :: r => (match x, y with | some (.string a), some (.string b) => eqBytes a.data.toList b.data.toList | _, _ => false) && eqCs l r
  | _, _ => false
theorem eqCs_eq : ∀ {l r : List (Option Value)}, eqCs l r = true → l = r
  | [], [], _ => rfl
  | x :: l, y :: r, h => by
    unfold eqCs at h
    rw [Bool.and_eq_true] at h
    rw [eqCs_eq h.2]
    have h1 := h.1
    split at h1
    · rename_i a b
      have h2 := eqBytes_eq h1
      cases a; cases b
      simp only [Array.toList_inj] at h2
      rw [h2]
    · cases h1
  | [], _ :: _, h => by cases h
  | _ :: _, [], h => by cases h
def hasGB (m : Mem) : Bool := m.wg.isNone && Nat.beq m.deaf 0 && m.hid.isEmpty && m.opn.isEmpty && Nat.blt 0 m.floor && Nat.beq (m.blk 0).kind 1 && Nat.beq (m.blk 0).sz 0 && eqCs (m.blk 0).cs spell0
structure SpRow where
  word : List UInt8
  first : Nat
  last : Nat
  kind : Nat
def sp_table : List SpRow := [
  ⟨[40], 5, 21, 5⟩,
  ⟨[40, 40], 5, 21, 0⟩,
  ⟨[40, 49], 5, 21, 0⟩,
  ⟨[40, 50], 5, 21, 0⟩,
  ⟨[40, 51], 5, 21, 0⟩,
  ⟨[40, 70], 5, 21, 0⟩,
  ⟨[40, 78], 5, 21, 0⟩,
  ⟨[40, 84], 5, 21, 0⟩,
  ⟨[40, 97], 5, 21, 0⟩,
  ⟨[41], 5, 21, 6⟩,
  ⟨[41, 32], 5, 21, 0⟩,
  ⟨[41, 41], 5, 21, 0⟩,
  ⟨[41, 44], 5, 21, 0⟩,
  ⟨[43], 5, 21, 17⟩,
  ⟨[43, 32], 5, 21, 0⟩,
  ⟨[44], 5, 21, 7⟩,
  ⟨[44, 32], 5, 21, 0⟩,
  ⟨[60], 5, 21, 13⟩,
  ⟨[60, 32], 5, 21, 0⟩,
  ⟨[61], 5, 21, 11⟩,
  ⟨[61, 32], 5, 21, 0⟩,
  ⟨[62], 5, 21, 15⟩,
  ⟨[62, 32], 5, 21, 0⟩,
  ⟨[65, 78, 68], 22, 46, 23⟩,
  ⟨[67, 82, 69, 65, 84, 69], 22, 46, 26⟩,
  ⟨[70, 65, 76, 83, 69], 22, 46, 27⟩,
  ⟨[70, 82, 79, 77], 22, 46, 28⟩,
  ⟨[73, 78, 83, 69, 82, 84], 22, 46, 29⟩,
  ⟨[73, 78, 84], 22, 46, 30⟩,
  ⟨[73, 78, 84, 79], 22, 46, 31⟩,
  ⟨[73, 83], 22, 46, 32⟩,
  ⟨[78, 79, 84], 22, 46, 34⟩,
  ⟨[78, 85, 76, 76], 22, 46, 35⟩,
  ⟨[79, 82], 22, 46, 37⟩,
  ⟨[83, 69, 76, 69, 67, 84], 22, 46, 39⟩,
  ⟨[84, 65, 66, 76, 69], 22, 46, 40⟩,
  ⟨[84, 82, 85, 69], 22, 46, 42⟩,
  ⟨[86, 65, 76, 85, 69, 83], 22, 46, 44⟩,
  ⟨[87, 72, 69, 82, 69], 22, 46, 45⟩,
  ⟨[97], 22, 46, 0⟩,
  ⟨[98], 22, 46, 0⟩,
  ⟨[101], 22, 46, 0⟩]
def lookSp (w : List UInt8) (a b : Int) : List SpRow → Option Nat
  | [] => none
  | r :: l => if Nat.beq r.first a.toNat && eqBytes r.word w && decide (a = (r.first : Int)) && decide (b = (r.last : Int)) then some r.kind else lookSp w a b l
/-- The call of 'spelled'. -/
def twS : CallT := fun f args m =>
  if Nat.beq f 78 then
    match args with
    | [.string w, .int .i64 a, .int .i64 b] => match lookSp w.data.toList a b sp_table with
      | some k => if hasGB m then some (.int .i64 k, m) else none
      | none => none
    | _ => none
  else none
def spRowOk (r : Option (Value × Mem)) (k : Nat) : Bool := match r with
  | some (.int .i64 n, m') => decide (n = (k : Int)) && Nat.beq m'.deaf 0
  | _ => false
theorem sp_facts : (sp_table.all fun r => spRowOk (callW Tryz.prog X0 40 78 [.string ⟨r.word.toArray⟩, .int .i64 r.first, .int .i64 r.last] m00) r.kind) = true := by kernel_rfl
end Go.AM
/-
  A CALL OF WHICH BUT SOME NEW BLOCKS ARE KEPT, made from a smaller memory ('keep_ok'): what it yields there it yields in any memory that holds that one.
-/
set_option linter.unusedVariables false
set_option linter.unusedSimpArgs false
namespace Go.AM
open Go Go.Conc Go.Proofs

def SameB (k k' : Blk) : Prop := k.kind = k'.kind ∧ k.sz = k'.sz ∧ k.pos = k'.pos ∧ k.cs = k'.cs ∧ k.es = k'.es ∧ k.clock = k'.clock ∧ k.str = k'.str
theorem SameB.trans {a b c : Blk} (h : SameB a b) (k : SameB b c) : SameB a c :=
  ⟨h.1.trans k.1, h.2.1.trans k.2.1, h.2.2.1.trans k.2.2.1, h.2.2.2.1.trans k.2.2.2.1, h.2.2.2.2.1.trans k.2.2.2.2.1, h.2.2.2.2.2.1.trans k.2.2.2.2.2.1, h.2.2.2.2.2.2.trans k.2.2.2.2.2.2⟩
theorem SameB.symm {a b : Blk} (h : SameB a b) : SameB b a := ⟨h.1.symm, h.2.1.symm, h.2.2.1.symm, h.2.2.2.1.symm, h.2.2.2.2.1.symm, h.2.2.2.2.2.1.symm, h.2.2.2.2.2.2.symm⟩
theorem SameB.rfl' {a : Blk} : SameB a a := ⟨rfl, rfl, rfl, rfl, rfl, rfl, rfl⟩
/-- Blocks are laid. -/
def layH (t : Nat) : List (Nat × Blk) → Heap → Heap
  | [], h => h
  | x :: l, h => (layH t l h).put x.1 { x.2 with stamp := t }
def layM (m : Mem) (L : List (Nat × Blk)) (nx : Nat) : Mem := { m with heap := layH m.tick L m.heap, next := nx, tick := m.tick + 1 }
theorem layH_get {t : Nat} : ∀ {L : List (Nat × Blk)} {h : Heap} (b : Nat), ((layH t L h).get b = h.get b ∧ ∀ x ∈ L, x.1 ≠ b) ∨ ∃ k, (b, k) ∈ L ∧ (layH t L h).get b = { k with stamp := t }
  | [], h, b => .inl ⟨rfl, fun x hx => by cases hx⟩
  | x :: l, h, b => by
    unfold layH
    rw [Heap.get_put]
    by_cases e : x.1 = b
    · subst e
      exact .inr ⟨x.2, List.mem_cons_self .., if_pos rfl⟩
    · rw [if_neg e]
      rcases layH_get (t := t) (L := l) (h := h) b with ⟨h1, h2⟩ | ⟨k, h1, h2⟩
      · refine .inl ⟨h1, fun y hy => ?_⟩
        rcases List.mem_cons.1 hy with rfl | hy
        · exact e
        · exact h2 y hy
      · exact .inr ⟨k, List.mem_cons_of_mem _ h1, h2⟩
theorem layM_blk {m : Mem} {L : List (Nat × Blk)} {nx : Nat} (b : Nat) : (layM m L nx).blk b = m.blk b ∧ (∀ x ∈ L, x.1 ≠ b) ∨ ∃ k, (b, k) ∈ L ∧ (layM m L nx).blk b = { k with stamp := m.tick } := layH_get b

/-- The smaller memory lies in the other. -/
structure Inn (G : Nat) (mi m : Mem) : Prop where
  wf : Wf mi
  next : mi.next = m.next
  base : mi.base = m.base
  home : mi.home = m.home
  hn : m.home ≤ m.next
  fi : mi.floor = mi.base
  fm : m.floor = m.base
  hidI : mi.hid = []
  hid : m.hid = []
  opnI : mi.opn = []
  opn : m.opn = []
  wgI : mi.wg = none
  wg : m.wg = none
  pendI : mi.pend = []
  pend : m.pend = []
  deafI : mi.deaf = 0
  deaf : m.deaf = 0
  same : ∀ b, (mi.blk b).kind ≠ 0 → SameB (mi.blk b) (m.blk b)
  low : ∀ b, b < m.home → (m.blk b).kind ≤ 1
def restP (ρ : Ren) (mi m : Mem) (E : Perm) : Perm where
  rd c x := (∃ b p, ρ b = some p ∧ (mi.blk b).kind = 0 ∧ p.c = c ∧ p.d ≤ x ∧ x < p.d + p.room ∧ m.okR b (x - p.d)) ∨ E.rd c x
  wr c x := (∃ b p, ρ b = some p ∧ (mi.blk b).kind = 0 ∧ p.c = c ∧ p.d ≤ x ∧ x < p.d + p.room ∧ m.okW b (x - p.d)) ∨ E.wr c x
  ob c := (∃ b p, ρ b = some p ∧ (mi.blk b).kind = 0 ∧ p.c = c ∧ ((m.blk b).kind = 2 ∨ (m.blk b).kind = 3) ∧ m.ownsObj b = true) ∨ E.ob c
  deaf := E.deaf
section
variable {P : Program} {G : Nat} {E : Perm} {w₀ w : World} {ρ : Ren} {mi m : Mem}
theorem Inn.okR (h : Inn G mi m) {b o : Nat} (k : mi.okR b o) : m.okR b o := by
  obtain ⟨k1, k2, k3⟩ := k
  obtain ⟨s1, _, _, s4, _⟩ := h.same b (by rw [k1]; simp)
  exact ⟨by rw [← s1]; exact k1, by rw [h.hid]; rfl, by rw [← s4]; exact k3⟩
theorem Inn.okW (h : Inn G mi m) {b o : Nat} (k : mi.okW b o) : m.okW b o := by
  refine ⟨h.okR k.1, ?_⟩
  rcases k.2 with k | k
  · exact .inl (by rw [h.fm, ← h.base, ← h.fi]; exact k)
  · rw [h.opnI] at k; cases k
theorem Inn.okR' (h : Inn G mi m) {b o : Nat} (hk : (mi.blk b).kind ≠ 0) (k : m.okR b o) : mi.okR b o := by
  obtain ⟨k1, k2, k3⟩ := k
  obtain ⟨s1, _, _, s4, _⟩ := h.same b hk
  exact ⟨by rw [s1]; exact k1, by rw [h.hidI]; rfl, by rw [s4]; exact k3⟩
theorem Inn.okW' (h : Inn G mi m) {b o : Nat} (hk : (mi.blk b).kind ≠ 0) (k : m.okW b o) : mi.okW b o := by
  refine ⟨h.okR' hk k.1, ?_⟩
  rcases k.2 with k | k
  · exact .inl (by rw [h.fi, h.base, ← h.fm]; exact k)
  · rw [h.opn] at k; cases k
theorem ownsO {m : Mem} (h : m.hid = []) (b : Nat) : m.ownsObj b = true ↔ m.home ≤ b := by
  unfold Mem.ownsObj
  rw [h]
  simp [touchesBlk]
theorem inn_hold (h : Inn P.globals.size mi m) (H : Hold P E w₀ .idle ρ m w) : Hold P (restP ρ mi m E) w .idle ρ mi w := by
  have hs := H.sim
  have l := low_or H.sim H.apart
  have sep2 : ∀ {b b' c x : Nat} {p p' : Pl}, b ≠ b' → ρ b = some p → ρ b' = some p' → p.c = c → p'.c = c → p.d ≤ x → x < p.d + p.room → p'.d ≤ x → x < p'.d + p'.room → (m.blk b).kind = 1 → (m.blk b').kind = 1 → False :=
    fun hne h1 h2 e1 e2 r1 r2 r3 r4 k1 k2 => by
      have := (hs.sep _ _ _ _ hne h1 h2 (by rw [k1]; simp) (by rw [k2]; simp) (e1.trans e2.symm)).2.2
      omega
  refine ⟨⟨fun b p hp => by rw [h.next]; exact hs.dom b p hp, fun b p hp hk => ?_, fun b p o v hp hc => ?_, fun b p o hp ho hk hb => ?_, fun b p hp hk ho => ?_, fun b p hp hk ho => ?_,
    fun b b' p p' hne hp hp' hk hk' hc => ?_, hs.inw, fun b p hp hk hpos => ?_⟩, Keeps.refl _ _, ⟨fun c x he => ⟨?_, ?_⟩, fun c he => ⟨?_, ?_, ?_⟩, fun c x he => ?_⟩, H.glob, ⟨h.wgI, h.pendI, by rw [h.home, h.next]; exact h.hn⟩, h.wf, fun b p x hp hb h1 h2 h3 he => ?_, fun c x he hr => ?_⟩
  · obtain ⟨s1, s2, _, s4, _⟩ := h.same b (by rw [hk]; simp)
    obtain ⟨a1, a2, a3⟩ := hs.cells b p hp (by rw [← s1]; exact hk)
    exact ⟨a1.trans s2.symm, by rw [s4]; exact a2, a3⟩
  · obtain ⟨c1, c2, c3⟩ := cell_some hc
    obtain ⟨s1, _, _, s4, _⟩ := h.same b (by rw [c1]; simp)
    exact hs.vals b p o v hp (cell_mk (by rw [← s1]; exact c1) (by rw [h.hid]; rfl) (by rw [← s4]; exact c3))
  · obtain ⟨s1, _⟩ := h.same b (by rw [hk]; simp)
    exact hs.thaw b p o hp ho (by rw [← s1]; exact hk) (by rw [← h.base]; exact hb)
  · obtain ⟨s1, _, _, _, s5, s6, _⟩ := h.same b (by rw [hk]; simp)
    rw [s5, s6]
    exact hs.maps b p hp (by rw [← s1]; exact hk) ((ownsO h.hid b).2 (by rw [← h.home]; exact (ownsO h.hidI b).1 ho))
  · obtain ⟨s1, _, s3, _, _, _, s7⟩ := h.same b (by rw [hk]; simp)
    rw [s3, s7]
    exact hs.iters b p hp (by rw [← s1]; exact hk) ((ownsO h.hid b).2 (by rw [← h.home]; exact (ownsO h.hidI b).1 ho))
  · obtain ⟨s1, _⟩ := h.same b hk
    obtain ⟨s1', _⟩ := h.same b' hk'
    rw [s1] at hk ⊢
    rw [s1'] at hk' ⊢
    exact hs.sep b b' p p' hne hp hp' hk hk' hc
  · obtain ⟨s1, _, s3, _⟩ := h.same b (by rw [hk]; simp)
    exact hs.vars b p hp (by rw [← s1]; exact hk) (by rw [← s3]; exact hpos)
  · rcases he with ⟨b, p, h1, _, rfl, _⟩ | he
    · exact hs.inw b p h1
    · exact (H.apart.cell c x he).1
  · rintro ⟨b', p', f1, f2, f3, f4, f5⟩
    rcases he with ⟨b, p, h1, h0, h2, h3, h4, h5⟩ | he
    · have hne : b ≠ b' := fun e => by subst e; rw [f5.1.1] at h0; cases h0
      exact sep2 hne h1 f1 h2 f2 h3 h4 f3 f4 h5.1 (h.okR f5.1).1
    · exact (H.apart.cell c x he).2 ⟨b', p', f1, f2, f3, f4, h.okW f5⟩
  · rcases he with ⟨b, p, h1, _, rfl, _⟩ | he
    · exact hs.inw b p h1
    · exact (H.apart.obj c he).1
  · rintro ⟨b', p', f1, f2, f3, f4⟩
    have f3' : (m.blk b').kind = 2 ∨ (m.blk b').kind = 3 := by rw [← (h.same b' (by omega)).1]; exact f3
    rcases he with ⟨b, p, h1, h0, h2, h3, h4⟩ | he
    · have hne : b ≠ b' := fun e => by subst e; omega
      have := hs.sep b b' p p' hne h1 f1 (by omega) (by omega) (h2.trans f2.symm)
      omega
    · exact (H.apart.obj c he).2.1 ⟨b', p', f1, f2, f3', (ownsO h.hid b').2 (by rw [← h.home]; exact (ownsO h.hidI b').1 f4)⟩
  · rcases he with ⟨b, p, h1, _, h2, h3, h4⟩ | he
    · exact (hs.low.ob c ⟨b, p, h1, h2, h3, h4⟩).2
    · exact (H.apart.obj c he).2.2
  · rcases he with ⟨b, p, h1, h0, h2, h3, h4, h5⟩ | he
    · exact .inl ⟨b, p, h1, h0, h2, h3, h4, h5.1⟩
    · exact .inr (H.apart.wf c x he)
  · rcases he with ⟨b', p', f1, f0, f2, f3, f4, f5⟩ | he
    · have hne : b ≠ b' := fun e => by subst e; rw [h3.1] at f0; cases f0
      exact sep2 hne hp f1 rfl f2 h1 h2 f3 f4 (h.okR h3).1 f5.1
    · exact H.apc b p x hp (by rw [← h.base]; exact hb) h1 h2 (h.okR h3) he
  · obtain ⟨b', p', f1, f2, f3, f4, f5⟩ := hr
    rcases he with ⟨b, p, h1, h0, h2, h3, h4, h5⟩ | he
    · have hne : b ≠ b' := fun e => by subst e; rw [f5.1] at h0; cases h0
      exact sep2 hne h1 f1 h2 f2 h3 h4 f3 f4 h5.1.1 (h.okR f5).1
    · exact H.ew c x he ⟨b', p', f1, f2, f3, f4, h.okR f5⟩

/-- What is kept of the memory behind. -/
structure OutQ (mi mq : Mem) (L : List (Nat × Blk)) (nx : Nat) : Prop where
  base : mq.base = mi.base
  home : mq.home = mi.home
  floor : mq.floor = mi.floor
  hid : mq.hid = []
  opn : mq.opn = []
  wg : mq.wg = none
  deaf : mq.deaf = 0
  unch : ∀ b, b < mi.next → (mi.blk b).kind ≠ 0 → SameB (mq.blk b) (mi.blk b)
  next : mq.next ≤ nx
  nx0 : mi.next ≤ nx
  new : ∀ x ∈ L, mi.next ≤ x.1 ∧ x.1 < nx ∧ SameB x.2 (mq.blk x.1) ∧ x.2.live
variable {mq : Mem} {L : List (Nat × Blk)} {nx : Nat} {ρq : Ren} {w' : World}
theorem keep_src (h : Inn G mi m) (hw : Wf m) (q : OutQ mi mq L nx) {b : Nat} (hk : ((layM m L nx).blk b).kind ≠ 0) :
    (SameB ((layM m L nx).blk b) (mq.blk b) ∧ (m.next ≤ b ∨ (mi.blk b).kind ≠ 0)) ∨ ((layM m L nx).blk b = m.blk b ∧ (mi.blk b).kind = 0 ∧ b < m.next) := by
  rcases layM_blk (m := m) (L := L) (nx := nx) b with ⟨e, _⟩ | ⟨k, hm, e⟩
  · by_cases hb : b < m.next
    · by_cases hi : (mi.blk b).kind = 0
      · exact .inr ⟨e, hi, hb⟩
      · refine .inl ⟨?_, .inr hi⟩
        rw [e]
        exact (h.same b hi).symm.trans (q.unch b (by rw [h.next]; exact hb) hi).symm
    · rw [e, hw.far b (by omega)] at hk
      exact absurd rfl hk
  · obtain ⟨n1, _, n3, _⟩ := q.new _ hm
    refine .inl ⟨?_, .inl (by rw [← h.next]; exact n1)⟩
    rw [e]
    exact n3
theorem keep_okR (h : Inn G mi m) (q : OutQ mi mq L nx) {b o : Nat} (hs : SameB ((layM m L nx).blk b) (mq.blk b)) (k : (layM m L nx).okR b o) : mq.okR b o := by
  obtain ⟨k1, k2, k3⟩ := k
  obtain ⟨s1, _, _, s4, _⟩ := hs
  exact ⟨by rw [← s1]; exact k1, by rw [q.hid]; rfl, by rw [← s4]; exact k3⟩
theorem keep_okW (h : Inn G mi m) (q : OutQ mi mq L nx) {b o : Nat} (hs : SameB ((layM m L nx).blk b) (mq.blk b)) (k : (layM m L nx).okW b o) : mq.okW b o := by
  refine ⟨keep_okR h q hs k.1, ?_⟩
  rcases k.2 with k | k
  · have k : m.floor ≤ b := k
    exact .inl (by rw [q.floor, h.fi, h.base, ← h.fm]; exact k)
  · have k : covers m.opn b o = true := k
    rw [h.opn] at k; cases k
theorem keep_hold (h : Inn P.globals.size mi m) (H : Hold P E w₀ .idle ρ m w) (Hq : Hold P (restP ρ mi m E) w .idle ρq mq w') (hle : ρ.le ρq) (hold : ∀ b, b < m.next → ρq b = ρ b) (q : OutQ mi mq L nx) :
    Hold P E w₀ .idle ρq (layM m L nx) w' ∧ SubP ((permOf ρq (layM m L nx)).or E) ((permOf ρq mq).or (restP ρ mi m E)) := by
  have hs := H.sim
  have sq := Hq.sim
  have K := Hq.rest
  have KE : Keeps E w w' := K.sub (fun _ _ => .inr) fun _ => .inr
  have src := fun {b : Nat} => keep_src (b := b) h H.wf q
  -- the rest's cells stand
  have rrd : ∀ {b p x}, ρ b = some p → (mi.blk b).kind = 0 → p.d ≤ x → x < p.d + p.room → m.okR b (x - p.d) → (restP ρ mi m E).rd p.c x := fun h1 h2 h3 h4 h5 => .inl ⟨_, _, h1, h2, rfl, h3, h4, h5⟩
  have old : ∀ {b p}, b < m.next → ρq b = some p → ρ b = some p := fun hb hp => by rw [← hold _ hb]; exact hp
  have hrd : ∀ c x, (permOf ρq (layM m L nx)).rd c x → (permOf ρq mq).rd c x ∨ (restP ρ mi m E).rd c x := by
    rintro c x ⟨b, p, h1, h2, h3, h4, h5⟩
    rcases src (b := b) (by rw [h5.1]; simp) with ⟨s, _⟩ | ⟨e, h0, hb⟩
    · exact .inl ⟨b, p, h1, h2, h3, h4, keep_okR h q s h5⟩
    · refine .inr (.inl ⟨b, p, old hb h1, h0, h2, h3, h4, ?_⟩)
      obtain ⟨k1, k2, k3⟩ := h5
      rw [e] at k1 k3
      exact ⟨k1, k2, k3⟩
  have hwr : ∀ c x, (permOf ρq (layM m L nx)).wr c x → (permOf ρq mq).wr c x ∨ ∃ b p, ρ b = some p ∧ (mi.blk b).kind = 0 ∧ p.c = c ∧ p.d ≤ x ∧ x < p.d + p.room ∧ m.okW b (x - p.d) := by
    rintro c x ⟨b, p, h1, h2, h3, h4, h5⟩
    rcases src (b := b) (by rw [h5.1.1]; simp) with ⟨s, _⟩ | ⟨e, h0, hb⟩
    · exact .inl ⟨b, p, h1, h2, h3, h4, keep_okW h q s h5⟩
    · refine .inr ⟨b, p, old hb h1, h0, h2, h3, h4, ?_⟩
      obtain ⟨⟨k1, k2, k3⟩, k4⟩ := h5
      rw [e] at k1 k3
      exact ⟨⟨k1, k2, k3⟩, k4⟩
  have ownQ : ∀ b, (layM m L nx).ownsObj b = true → mq.ownsObj b = true := fun b ho => (ownsO q.hid b).2 (by rw [q.home, h.home]; exact (ownsO (m := layM m L nx) h.hid b).1 ho)
  have ownM : ∀ b, (layM m L nx).ownsObj b = true → m.ownsObj b = true := fun b ho => ho
  have hob : ∀ c, (permOf ρq (layM m L nx)).ob c → (permOf ρq mq).ob c ∨ ∃ b p, ρ b = some p ∧ (mi.blk b).kind = 0 ∧ p.c = c ∧ ((m.blk b).kind = 2 ∨ (m.blk b).kind = 3) ∧ m.ownsObj b = true := by
    rintro c ⟨b, p, h1, h2, h3, h4⟩
    rcases src (b := b) (by omega) with ⟨s, _⟩ | ⟨e, h0, hb⟩
    · exact .inl ⟨b, p, h1, h2, by rw [← s.1]; exact h3, ownQ b h4⟩
    · exact .inr ⟨b, p, old hb h1, h0, h2, by rw [← e]; exact h3, ownM b h4⟩
  -- one of each
  have cross : ∀ {b b' p p'}, ρq b = some p → ρq b' = some p' → SameB ((layM m L nx).blk b) (mq.blk b) → (m.next ≤ b ∨ (mi.blk b).kind ≠ 0) → (layM m L nx).blk b' = m.blk b' → (mi.blk b').kind = 0 → b' < m.next →
      ((layM m L nx).blk b).kind ≠ 0 → (m.blk b').kind ≠ 0 → p.c = p'.c → ((layM m L nx).blk b).kind = 1 ∧ (m.blk b').kind = 1 ∧ (p.room = 0 ∨ p'.room = 0 ∨ p.d + p.room ≤ p'.d ∨ p'.d + p'.room ≤ p.d) := by
    intro b b' p p' hp hp' s hsrc e h0 hb' hk hk' hc
    have hp'ρ := old hb' hp'
    by_cases hb : b < m.next
    · have hi : (mi.blk b).kind ≠ 0 := hsrc.resolve_left (by omega)
      have e1 : ((layM m L nx).blk b).kind = (m.blk b).kind := s.1.trans ((q.unch b (by rw [h.next]; exact hb) hi).1.trans (h.same b hi).1)
      rw [e1] at hk ⊢
      exact hs.sep b b' p p' (fun e => by subst e; exact hi h0) (old hb hp) hp'ρ hk hk' hc
    · have k3 := (Hq.wf.live b).2
      have k3' := (H.wf.live b').2
      rw [← s.1] at k3
      have fl : mq.floor ≤ b := by rw [q.floor, h.fi, h.base, ← h.fm]; have := H.wf.fl; omega
      have oq : mq.ownsObj b = true := (ownsO q.hid b).2 (by rw [q.home, h.home]; have := h.hn; omega)
      have alive : ∀ {k : Blk}, k.live → ∀ o, o < k.cs.length → ∃ v, k.cs[o]? = some (some v) := fun {k} hk o ho => by
        have h1 := List.getElem?_eq_getElem ho
        cases hv : k.cs[o] with
        | none => exact absurd hv (hk.1 _ (List.getElem_mem ho))
        | some v => exact ⟨v, by rw [h1, hv]⟩
      have shk : ((layM m L nx).blk b).kind = 1 → ∃ y, w'.shape? p.c = some y := fun h => by
        obtain ⟨_, _, e, n, h, _⟩ := sq.cells b p hp (by rw [← s.1]; exact h)
        exact ⟨_, h⟩
      have shk' : (m.blk b').kind = 1 → ∃ y, w'.shape? p'.c = some y := fun h => by
        obtain ⟨_, _, e, n, h, _⟩ := hs.cells b' p' hp'ρ h
        exact ⟨_, by rw [K.shape _ (hs.inw b' p' hp'ρ)]; exact h⟩
      have ob' : (m.blk b').kind = 2 ∨ (m.blk b').kind = 3 → (restP ρ mi m E).ob p'.c := fun hk2 => .inl ⟨b', p', hp'ρ, h0, rfl, hk2, (ownsO h.hid b').2 (by
        by_cases hlt : b' < m.home
        · have := h.low b' hlt; omega
        · omega)⟩
      by_cases e1 : ((layM m L nx).blk b).kind = 1
      · by_cases e2 : (m.blk b').kind = 1
        · refine ⟨e1, e2, Classical.byContradiction fun hn => ?_⟩
          have hy1 : (permOf ρq mq).wr p.c (max p.d p'.d) :=
            ⟨b, p, hp, rfl, by omega, by omega, ⟨by rw [← s.1]; exact e1, by rw [q.hid]; rfl, alive (Hq.wf.live b) _⟩, .inl fl⟩
          have hy2 : (restP ρ mi m E).rd p.c (max p.d p'.d) := by
            rw [hc]
            exact rrd hp'ρ h0 (by omega) (by omega) ⟨e2, by rw [h.hid]; rfl, alive (H.wf.live b') _⟩
          exact (Hq.apart.cell _ _ hy2).2 hy1
        · exfalso
          obtain ⟨y, hy⟩ := shk e1
          have := (Hq.apart.obj _ (ob' (by omega))).2.2
          rw [← hc, hy] at this; cases this
      · exfalso
        have o1 : (permOf ρq mq).ob p.c := ⟨b, p, hp, rfl, by rw [← s.1]; omega, oq⟩
        by_cases e2 : (m.blk b').kind = 1
        · obtain ⟨y, hy⟩ := shk' e2
          have := (sq.low.ob _ o1).2
          rw [hc, hy] at this; cases this
        · have := (Hq.apart.obj _ (ob' (by omega))).2.1
          rw [← hc] at this
          exact this o1
  refine ⟨⟨⟨fun b p hp => ?_, fun b p hp hk => ?_, fun b p o v hp hc => ?_, fun b p o hp ho hk hb => ?_, fun b p hp hk ho => ?_, fun b p hp hk ho => ?_,
    fun b b' p p' hne hp hp' hk hk' hc => ?_, sq.inw, fun b p hp hk hpos => ?_⟩, H.rest.trans KE, ⟨fun c x he => ⟨Nat.lt_of_lt_of_le (H.apart.cell c x he).1 K.size, fun hx => ?_⟩, fun c he => ⟨Nat.lt_of_lt_of_le (H.apart.obj c he).1 K.size, fun hx => ?_, ?_⟩, H.apart.wf⟩,
    fun g hg => let ⟨p, a, b⟩ := H.glob g hg; ⟨p, hle _ _ a, b⟩, ⟨h.wg, h.pend, ?_⟩, ?_, fun b p x hp hb h1 h2 h3 he => ?_, fun c x he hr => ?_⟩, ⟨fun c x hx => ?_, fun c x hx => ?_, fun c hx => ?_⟩⟩
  · exact Nat.lt_of_lt_of_le (sq.dom b p hp) q.next
  · rcases src (b := b) (by rw [hk]; simp) with ⟨s, _⟩ | ⟨e, h0, hb⟩
    · obtain ⟨s1, s2, _, s4, _⟩ := s
      obtain ⟨a1, a2, a3⟩ := sq.cells b p hp (by rw [← s1]; exact hk)
      exact ⟨a1.trans s2.symm, by rw [s4]; exact a2, a3⟩
    · rw [e] at hk ⊢
      obtain ⟨a1, a2, e', n, a3, a4⟩ := hs.cells b p (old hb hp) hk
      exact ⟨a1, a2, e', n, by rw [K.shape _ (hs.inw b p (old hb hp))]; exact a3, a4⟩
  · obtain ⟨c1, c2, c3⟩ := cell_some hc
    rcases src (b := b) (by rw [c1]; simp) with ⟨s, _⟩ | ⟨e, h0, hb⟩
    · obtain ⟨s1, _, _, s4, _⟩ := s
      exact sq.vals b p o v hp (cell_mk (by rw [← s1]; exact c1) (by rw [q.hid]; rfl) (by rw [← s4]; exact c3))
    · rw [e] at c1 c3
      have hcell : m.cell b o = some v := cell_mk c1 c2 c3
      obtain ⟨v', a1, a2⟩ := hs.vals b p o v (old hb hp) hcell
      have hro := room_of_cell hs (old hb hp) hcell
      refine ⟨v', ?_, a2.ren hle⟩
      rw [K.cell _ _ (rrd (old hb hp) h0 (by omega) (by omega) (by rw [Nat.add_sub_cancel_left]; exact Mem.okR_of_cell hcell))]
      exact a1
  · rcases src (b := b) (by rw [hk]; simp) with ⟨s, _⟩ | ⟨e, h0, hb'⟩
    · exact sq.thaw b p o hp ho (by rw [← s.1]; exact hk) (by rw [q.base, h.base]; exact hb)
    · rw [e] at hk
      rw [frz_froz (K.froz _ _ (hs.inw b p (old hb' hp)))]
      exact hs.thaw b p o (old hb' hp) ho hk hb
  · rcases src (b := b) (by rw [hk]; simp) with ⟨s, _⟩ | ⟨e, h0, hb⟩
    · obtain ⟨s1, _, _, _, s5, s6, _⟩ := s
      rw [s5, s6]
      exact sq.maps b p hp (by rw [← s1]; exact hk) (ownQ b ho)
    · rw [e] at hk ⊢
      obtain ⟨es', a1, a2⟩ := hs.maps b p (old hb hp) hk (ownM b ho)
      refine ⟨es', ?_, a2.mono fun _ _ x => ⟨x.1.ren hle, x.2.1.ren hle, x.2.2⟩⟩
      rw [K.obj _ (.inl ⟨b, p, old hb hp, h0, rfl, .inl hk, ownM b ho⟩)]
      exact a1
  · rcases src (b := b) (by rw [hk]; simp) with ⟨s, _⟩ | ⟨e, h0, hb⟩
    · obtain ⟨s1, _, s3, _, _, _, s7⟩ := s
      rw [s3, s7]
      exact sq.iters b p hp (by rw [← s1]; exact hk) (ownQ b ho)
    · rw [e] at hk ⊢
      obtain ⟨a1, a2⟩ := hs.iters b p (old hb hp) hk (ownM b ho)
      exact ⟨a1, by rw [K.obj _ (.inl ⟨b, p, old hb hp, h0, rfl, .inr hk, ownM b ho⟩)]; exact a2⟩
  · rcases src hk with ⟨s, t⟩ | ⟨e, h0, hb⟩ <;> rcases src hk' with ⟨s', t'⟩ | ⟨e', h0', hb'⟩
    · rw [s.1] at hk ⊢
      rw [s'.1] at hk' ⊢
      exact sq.sep b b' p p' hne hp hp' hk hk' hc
    · rw [e'] at hk' ⊢
      exact cross hp hp' s t e' h0' hb' hk hk' hc
    · rw [e] at hk ⊢
      obtain ⟨a1, a2, a3⟩ := cross hp' hp s' t' e h0 hb hk' hk hc.symm
      exact ⟨a2, a1, by omega⟩
    · rw [e] at hk ⊢
      rw [e'] at hk' ⊢
      exact hs.sep b b' p p' hne (old hb hp) (old hb' hp') hk hk' hc
  · rcases src (b := b) (by rw [hk]; simp) with ⟨s, _⟩ | ⟨e, h0, hb⟩
    · obtain ⟨s1, _, s3, _⟩ := s
      exact sq.vars b p hp (by rw [← s1]; exact hk) (by rw [← s3]; exact hpos)
    · rw [e] at hk hpos
      exact hs.vars b p (old hb hp) hk hpos
  · rcases hwr c x hx with hx | ⟨b, p, h1, _, h2, h3, h4, h5⟩
    · exact (Hq.apart.cell c x (.inr he)).2 hx
    · exact (H.apart.cell c x he).2 ⟨b, p, h1, h2, h3, h4, h5⟩
  · rcases hob c hx with hx | ⟨b, p, h1, _, h2, h3, h4⟩
    · exact (Hq.apart.obj c (.inr he)).2.1 hx
    · exact (H.apart.obj c he).2.1 ⟨b, p, h1, h2, h3, h4⟩
  · exact (Hq.apart.obj c (.inr he)).2.2
  · show m.home ≤ nx
    have := h.hn
    have := q.nx0
    have := h.next
    omega
  · refine ⟨fun b => ?_, fun b hb => ?_, fun s hs' => ?_, ?_, fun b => ?_⟩
    · show _ < m.tick + 1
      rcases layM_blk (m := m) (L := L) (nx := nx) b with ⟨e, _⟩ | ⟨k, _, e⟩
      · rw [e]; exact Nat.lt_succ_of_lt (H.wf.stamp b)
      · rw [e]; exact Nat.lt_succ_self _
    · have hb : nx ≤ b := hb
      rcases layM_blk (m := m) (L := L) (nx := nx) b with ⟨e, _⟩ | ⟨k, hm, e⟩
      · rw [e]; exact H.wf.far b (by have := q.nx0; have := h.next; omega)
      · have := (q.new _ hm).2.1
        have : b < nx := this
        omega
    · have hs' : s ∈ m.hid := hs'
      rw [h.hid] at hs'; cases hs'
    · show m.floor ≤ nx
      have := H.wf.fl
      have := q.nx0
      have := h.next
      omega
    · rcases layM_blk (m := m) (L := L) (nx := nx) b with ⟨e, _⟩ | ⟨k, hm, e⟩
      · rw [e]; exact H.wf.live b
      · rw [e]; exact (q.new _ hm).2.2.2
  · rcases src (b := b) (by rw [h3.1]; simp) with ⟨s, _⟩ | ⟨e, h0, hb'⟩
    · exact Hq.apc b p x hp (by rw [q.base, h.base]; exact hb) h1 h2 (keep_okR h q s h3) (.inr he)
    · obtain ⟨k1, k2, k3⟩ := h3
      rw [e] at k1 k3
      exact H.apc b p x (old hb' hp) hb h1 h2 ⟨k1, k2, k3⟩ he
  · obtain ⟨b, p, h1, h2, h3, h4, h5⟩ := hr
    rcases src (b := b) (by rw [h5.1]; simp) with ⟨s, _⟩ | ⟨e, h0, hb'⟩
    · exact Hq.ew c x (.inr he) ⟨b, p, h1, h2, h3, h4, keep_okR h q s h5⟩
    · obtain ⟨k1, k2, k3⟩ := h5
      rw [e] at k1 k3
      exact H.ew c x he ⟨b, p, old hb' h1, h2, h3, h4, k1, k2, k3⟩
  · rcases hx with hx | hx
    · exact (hrd c x hx).imp id id
    · exact .inr (.inr hx)
  · rcases hx with hx | hx
    · exact (hwr c x hx).imp id .inl
    · exact .inr (.inr hx)
  · rcases hx with hx | hx
    · exact (hob c hx).imp id .inl
    · exact .inr (.inr hx)
end
theorem mv_lay {mi m mq : Mem} {L : List (Nat × Blk)} {nx G : Nat} (h : Inn G mi m) (q : OutQ mi mq L nx) : Mv m (layM m L nx) := by
  refine ⟨by have := q.nx0; have := h.next; show m.next ≤ nx; omega, Nat.le_succ _, fun hw => ?_, fun b => ?_, fun s hs => .inl hs⟩
  · refine ⟨fun b => ?_, fun b hb => ?_, fun s hs' => ?_, ?_, fun b => ?_⟩
    · show _ < m.tick + 1
      rcases layM_blk (m := m) (L := L) (nx := nx) b with ⟨e, _⟩ | ⟨k, _, e⟩
      · rw [e]; exact Nat.lt_succ_of_lt (hw.stamp b)
      · rw [e]; exact Nat.lt_succ_self _
    · have hb : nx ≤ b := hb
      rcases layM_blk (m := m) (L := L) (nx := nx) b with ⟨e, _⟩ | ⟨k, hm, e⟩
      · rw [e]; exact hw.far b (by have := q.nx0; have := h.next; omega)
      · have : b < nx := (q.new _ hm).2.1
        omega
    · have hs' : s ∈ m.hid := hs'
      rw [h.hid] at hs'; cases hs'
    · show m.floor ≤ nx
      have := hw.fl
      have := q.nx0
      have := h.next
      omega
    · rcases layM_blk (m := m) (L := L) (nx := nx) b with ⟨e, _⟩ | ⟨k, hm, e⟩
      · rw [e]; exact hw.live b
      · rw [e]; exact (q.new _ hm).2.2.2
  · rcases layM_blk (m := m) (L := L) (nx := nx) b with ⟨e, _⟩ | ⟨k, _, e⟩
    · exact .inl e
    · exact .inr (by rw [e]; exact Nat.le_refl _)
theorem keep_ok {Fin : Value → World → Prop} {call : CallT} (C : CallOk Tryz.prog X0 true (Jn Fin) Mv call) {mi mq m : Mem} {f : Nat} {args : List Value} {v : Value} {L : List (Nat × Blk)} {nx : Nat} (hcall : call f args mi = some (v, mq)) (hb : bodied Tryz.prog f = true)
    (h : Inn Tryz.prog.globals.size mi m) (q : OutQ mi mq L nx) :
    Mv m (layM m L nx) ∧ ∃ c, ∀ {E : Perm} {w₀ : World} {σ : GSt} {ρ : Ren} {w : World} (args' : Array Value) (fr : Frame) (cs : List Frame) (n : Nat) (kind : CallKind),
      Hold Tryz.prog E w₀ σ ρ m w → Rel2 (VRel ρ) args args'.toList → (kind = .normal ∨ (kind = .deferred ∧ fr.mode = .returning ∧ f ≠ X0.wgGo ∧ f ≠ X0.wgWait)) →
      (∀ σ' ρ' v' w', ρ.le ρ' → OldR m ρ ρ' → Hold Tryz.prog E w₀ σ' ρ' (layM m L nx) w' → VRel ρ' v v' → Jn Fin σ' n ((permOf ρ' (layM m L nx)).or E) (G (if kind = .normal then fr.finish v' else fr) cs) w') →
      Jn Fin σ (n + c) ((permOf ρ m).or E) (G (Frame.enter Tryz.prog f args' kind) (fr :: cs)) w := by
  refine ⟨mv_lay h q, ?_⟩
  obtain ⟨_, _, hbd⟩ := C f args mi v mq h.wf hcall
  obtain ⟨c, hbd⟩ := hbd hb
  refine ⟨c, fun {E w₀ σ ρ w} args' fr cs n kind H hr hk hcont => ?_⟩
  cases σ with
  | wrk => trivial
  | grp gr =>
    obtain ⟨_, _, _, wa, k1, _⟩ := H.grp
    rw [h.wg] at k1; cases k1
  | idle =>
    have HI := inn_hold h H
    have key := hbd args' fr cs n kind HI hr hk fun σ' ρq v' w' hle hold Hq hv => by
      cases σ' with
      | wrk => trivial
      | grp gr =>
        obtain ⟨_, _, _, wa, k1, _⟩ := Hq.grp
        rw [q.wg] at k1; cases k1
      | idle =>
        have hold' : ∀ b, b < m.next → ρq b = ρ b := fun b hb => hold b (by rw [h.next]; exact hb) fun s hs => by rw [h.pendI] at hs; cases hs
        obtain ⟨Ho, hsub⟩ := keep_hold h H Hq hle hold' q
        have := hcont .idle ρq v' w' hle (.of hold') Ho hv
        exact JM.perm hsub Ho.low.wr (h.deaf.trans q.deaf.symm) this
    have hsub : SubP ((permOf ρ mi).or (restP ρ mi m E)) ((permOf ρ m).or E) := by
      refine ⟨fun c x hx => ?_, fun c x hx => ?_, fun c hx => ?_⟩
      · rcases hx with ⟨b, p, h1, h2, h3, h4, h5⟩ | ⟨b, p, h1, _, h2, h3, h4, h5⟩ | hx
        · exact .inl ⟨b, p, h1, h2, h3, h4, h.okR h5⟩
        · exact .inl ⟨b, p, h1, h2, h3, h4, h5⟩
        · exact .inr hx
      · rcases hx with ⟨b, p, h1, h2, h3, h4, h5⟩ | ⟨b, p, h1, _, h2, h3, h4, h5⟩ | hx
        · exact .inl ⟨b, p, h1, h2, h3, h4, h.okW h5⟩
        · exact .inl ⟨b, p, h1, h2, h3, h4, h5⟩
        · exact .inr hx
      · rcases hx with ⟨b, p, h1, h2, h3, h4⟩ | ⟨b, p, h1, _, h2, h3, h4⟩ | hx
        · exact .inl ⟨b, p, h1, h2, by rw [← (h.same b (by omega)).1]; exact h3, (ownsO h.hid b).2 (by rw [← h.home]; exact (ownsO h.hidI b).1 h4)⟩
        · exact .inl ⟨b, p, h1, h2, h3, h4⟩
        · exact .inr hx
    exact JM.perm hsub HI.low.wr (h.deafI.trans h.deaf.symm) key
end Go.AM
/-
  ROWS: calls whose yield is known, with the blocks that are kept ('rows_ok').
-/
set_option linter.unusedVariables false
set_option linter.unusedSimpArgs false
namespace Go.AM
open Go Go.Conc Go.Proofs

def eqA : Option Addr → Option Addr → Bool
  | none, none => true
  | some ⟨b, o, none⟩, some ⟨b', o', none⟩ => Nat.beq b b' && Nat.beq o o'
  | _, _ => false
theorem eqA_eq {a b : Option Addr} (h : eqA a b = true) : a = b := by
  unfold eqA at h
  split at h
  · rfl
  · rw [Bool.and_eq_true] at h
    rw [Nat.eq_of_beq_eq_true h.1, Nat.eq_of_beq_eq_true h.2]
  · cases h
def eqL {α : Type} (e : α → α → Bool) : List α → List α → Bool
  | [], [] => true
  | a :: l, b :: r => e a b && eqL e l r
  | _, _ => false
theorem eqL_eq {α : Type} {e : α → α → Bool} (he : ∀ a b, e a b = true → a = b) : ∀ {l r : List α}, eqL e l r = true → l = r
  | [], [], _ => rfl
  | a :: l, b :: r, h => by
    unfold eqL at h
    rw [Bool.and_eq_true] at h
    rw [he a b h.1, eqL_eq he h.2]
  | [], _ :: _, h => by cases h
  | _ :: _, [], h => by cases h
def eqV : Nat → Value → Value → Bool
  | 0, _, _ => false
  | n + 1, a, b =>
    match a, b with
    | .bool x, .bool y => decide (x = y)
    | .int k x, .int k' y => decide (k = k') && decide (x = y)
    | .string s, .string t => eqBytes s.data.toList t.data.toList
    | .pointer a, .pointer b => eqA a b
    | .slice a l c, .slice a' l' c' => eqA a a' && Nat.beq l l' && Nat.beq c c'
    | .map (some r), .map (some r') => Nat.beq r r'
    | .map none, .map none => true
    | .nilIface, .nilIface => true
    | .nilFunc, .nilFunc => true
    | .iface t x, .iface t' y => Nat.beq t t' && eqV n x y
    | .agg cs, .agg ds => eqL (eqV n) cs.toList ds.toList
    | .tuple cs, .tuple ds => eqL (eqV n) cs.toList ds.toList
    | _, _ => false
theorem eqBytes_str {s t : ByteArray} (h : eqBytes s.data.toList t.data.toList = true) : s = t := by
  have h2 := eqBytes_eq h
  cases s; cases t
  simp only [Array.toList_inj] at h2
  rw [h2]
theorem eqV_eq : ∀ {n : Nat} {a b : Value}, eqV n a b = true → a = b := by
  intro n
  induction n with
  | zero => intro a b h; cases h
  | succ n ih =>
    intro a b h
    unfold eqV at h
    split at h
    · rw [of_decide_eq_true h]
    · rw [Bool.and_eq_true] at h
      rw [of_decide_eq_true h.1, of_decide_eq_true h.2]
    · rw [eqBytes_str h]
    · rw [eqA_eq h]
    · simp only [Bool.and_eq_true] at h
      rw [eqA_eq h.1.1, Nat.eq_of_beq_eq_true h.1.2, Nat.eq_of_beq_eq_true h.2]
    · rw [Nat.eq_of_beq_eq_true h]
    · rfl
    · rfl
    · rfl
    · rw [Bool.and_eq_true] at h
      rw [Nat.eq_of_beq_eq_true h.1, ih h.2]
    · have := eqL_eq (fun a b => ih) h
      rw [Array.toList_inj.1 this]
    · have := eqL_eq (fun a b => ih) h
      rw [Array.toList_inj.1 this]
    · cases h
def eqC (x y : Option Value) : Bool := match x, y with
  | some a, some b => eqV 20 a b
  | _, _ => false
theorem eqC_eq (x y : Option Value) (h : eqC x y = true) : x = y := by
  unfold eqC at h
  split at h
  · rw [eqV_eq h]
  · cases h
def eqE (x y : MapEntry) : Bool := eqV 20 x.key y.key && eqV 20 x.val y.val && Nat.beq x.born y.born
theorem eqE_eq (x y : MapEntry) (h : eqE x y = true) : x = y := by
  unfold eqE at h
  simp only [Bool.and_eq_true] at h
  cases x; cases y
  simp only at h
  rw [eqV_eq h.1.1, eqV_eq h.1.2, Nat.eq_of_beq_eq_true h.2]
def eqBlk (k k' : Blk) : Bool := Nat.beq k.kind k'.kind && Nat.beq k.sz k'.sz && Nat.beq k.pos k'.pos && eqL eqC k.cs k'.cs && eqL eqE k.es.toList k'.es.toList && Nat.beq k.clock k'.clock && eqBytes k.str.data.toList k'.str.data.toList
theorem eqBlk_same {k k' : Blk} (h : eqBlk k k' = true) : SameB k k' := by
  unfold eqBlk at h
  simp only [Bool.and_eq_true] at h
  obtain ⟨⟨⟨⟨⟨⟨h1, h2⟩, h3⟩, h4⟩, h5⟩, h6⟩, h7⟩ := h
  exact ⟨Nat.eq_of_beq_eq_true h1, Nat.eq_of_beq_eq_true h2, Nat.eq_of_beq_eq_true h3, eqL_eq eqC_eq h4, Array.toList_inj.1 (eqL_eq eqE_eq h5), Nat.eq_of_beq_eq_true h6, eqBytes_str h7⟩
theorem eqBlk_live {k k' : Blk} (h : eqBlk k k' = true) : ∀ x ∈ k.cs, x ≠ none := by
  unfold eqBlk at h
  simp only [Bool.and_eq_true] at h
  have h4 := h.1.1.1.2
  intro x hx
  have : ∀ {l r : List (Option Value)}, eqL eqC l r = true → ∀ x ∈ l, x ≠ none := by
    intro l
    induction l with
    | nil => intro r _ x hx; cases hx
    | cons a l ih =>
      intro r h x hx
      cases r with
      | nil => cases h
      | cons b r =>
        unfold eqL at h
        rw [Bool.and_eq_true] at h
        rcases List.mem_cons.1 hx with rfl | hx
        · intro e
          subst e
          have := h.1
          unfold eqC at this
          cases this
        · exact ih h.2 x hx
  exact this h4 x hx

/-- A call, from the globals and the blocks K, the next block being N: it yields v, and of the new blocks those of L are kept. -/
structure Row where
  f : Nat
  args : List Value
  K : List (Nat × Blk)
  N : Nat
  v : Value
  L : List (Nat × Blk)
  nx : Nat
def Row.mi (r : Row) : Mem := layM m00 r.K r.N
def Row.okQ (r : Row) (mq : Mem) : Bool :=
  Nat.beq mq.base 12 && Nat.beq mq.home 12 && Nat.beq mq.floor 12 && mq.hid.isEmpty && mq.opn.isEmpty && mq.wg.isNone && Nat.beq mq.deaf 0 && Nat.ble mq.next r.nx && Nat.ble r.N r.nx && Nat.ble 12 r.N &&
  eqBlk (mq.blk 0) (r.mi.blk 0) && (r.K.all fun x => Nat.blt 0 x.1 && Nat.blt x.1 r.N && Nat.ble x.2.kind 3 && eqBlk (mq.blk x.1) (r.mi.blk x.1) && eqBlk x.2 x.2) && r.L.all fun x => Nat.ble r.N x.1 && Nat.blt x.1 r.nx && Nat.ble x.2.kind 3 && eqBlk x.2 (mq.blk x.1)
def Row.fact (call : CallT) (r : Row) : Bool := match call r.f r.args r.mi with
  | some (v', mq) => eqV 20 r.v v' && r.okQ mq
  | none => false
def Row.fits (r : Row) (m : Mem) : Bool :=
  Nat.beq m.next r.N && Nat.beq m.base 12 && Nat.beq m.home 12 && Nat.beq m.floor 12 && m.hid.isEmpty && m.opn.isEmpty && m.wg.isNone && m.pend.isEmpty && Nat.beq m.deaf 0 && eqBlk (r.mi.blk 0) (m.blk 0) && (r.K.all fun x => eqBlk (r.mi.blk x.1) (m.blk x.1)) &&
  ((List.range 12).all fun b => Nat.ble (m.blk b).kind 1)
def twRows : List Row → CallT
  | [], _, _, _ => none
  | r :: l, f, args, m => if Nat.beq r.f f && eqL (eqV 20) r.args args then (if r.fits m then some (r.v, layM m r.L r.nx) else none) else twRows l f args m
theorem m00_blk (b : Nat) : m00.blk b = if 0 = b then { kind := 1, cs := spell0 } else {} := by
  show (Heap.put [] 0 { kind := 1, cs := spell0 }).get b = _
  rw [Heap.get_put]
  split
  · rfl
  · unfold Heap.get
    have : ∀ i, lget hp4 ([] : Heap) i = hp4 := fun _ => rfl
    rw [this]
    unfold get4 hp4 hp3 hp2 hp1
    simp only [N8.get_all]
theorem wf_m00 : Wf m00 := by
  refine ⟨fun b => ?_, fun b hb => ?_, fun s hs => (by cases hs), Nat.le_refl _, fun b => ?_⟩
  · rw [m00_blk]; split <;> exact Nat.one_pos
  · have hb : 12 ≤ b := hb
    rw [m00_blk, if_neg (by omega)]
  · rw [m00_blk]
    split
    · refine ⟨fun x hx => ?_, by decide⟩
      have hx : x ∈ spell0 := hx
      have : ∀ y ∈ spell0, y ≠ none := by
        have h : (spell0.all (·.isSome)) = true := by kernel_rfl
        intro y hy e
        have := List.all_eq_true.1 h y hy
        rw [e] at this; cases this
      exact this x hx
    · exact ⟨fun x hx => (by cases hx), Nat.zero_le _⟩
theorem wf_lay {m : Mem} {L : List (Nat × Blk)} {nx : Nat} (hw : Wf m) (hh : m.hid = []) (hn : m.next ≤ nx) (hL : ∀ x ∈ L, x.1 < nx ∧ x.2.live) : Wf (layM m L nx) := by
  refine ⟨fun b => ?_, fun b hb => ?_, fun s hs' => ?_, ?_, fun b => ?_⟩
  · show _ < m.tick + 1
    rcases layM_blk (m := m) (L := L) (nx := nx) b with ⟨e, _⟩ | ⟨k, _, e⟩
    · rw [e]; exact Nat.lt_succ_of_lt (hw.stamp b)
    · rw [e]; exact Nat.lt_succ_self _
  · have hb : nx ≤ b := hb
    rcases layM_blk (m := m) (L := L) (nx := nx) b with ⟨e, _⟩ | ⟨k, hm, e⟩
    · rw [e]; exact hw.far b (by omega)
    · have : b < nx := (hL _ hm).1
      omega
  · have hs' : s ∈ m.hid := hs'
    rw [hh] at hs'; cases hs'
  · show m.floor ≤ nx
    have := hw.fl
    omega
  · rcases layM_blk (m := m) (L := L) (nx := nx) b with ⟨e, _⟩ | ⟨k, hm, e⟩
    · rw [e]; exact hw.live b
    · rw [e]; exact (hL _ hm).2
theorem row_inn {r : Row} {mq m : Mem} (hq : r.okQ mq = true) (hm : r.fits m = true) : Inn Tryz.prog.globals.size r.mi m ∧ OutQ r.mi mq r.L r.nx := by
  unfold Row.okQ at hq
  unfold Row.fits at hm
  simp only [Bool.and_eq_true] at hq hm
  obtain ⟨⟨⟨⟨⟨⟨⟨⟨⟨⟨⟨⟨q1, q2⟩, q3⟩, q4⟩, q5⟩, q6⟩, q7⟩, q8⟩, q9⟩, q10⟩, q11⟩, q12⟩, q13⟩ := hq
  obtain ⟨⟨⟨⟨⟨⟨⟨⟨⟨⟨⟨m1, m2⟩, m3⟩, m4⟩, m5⟩, m6⟩, m7⟩, m8⟩, m9⟩, m10⟩, m11⟩, m12⟩ := hm
  have q12 := List.all_eq_true.1 q12
  have q13 := List.all_eq_true.1 q13
  have m11 := List.all_eq_true.1 m11
  have m12 := List.all_eq_true.1 m12
  have e1 := Nat.eq_of_beq_eq_true m1
  have e2 := Nat.eq_of_beq_eq_true m2
  have e3 := Nat.eq_of_beq_eq_true m3
  have e4 := Nat.eq_of_beq_eq_true m4
  have hN : 12 ≤ r.N := Nat.le_of_ble_eq_true q10
  have hK : ∀ x ∈ r.K, x.1 < r.N ∧ x.2.live := fun x hx => by
    have := q12 x hx
    simp only [Bool.and_eq_true] at this
    exact ⟨Nat.lt_of_lt_of_le (Nat.lt_succ_self _) (Nat.le_of_ble_eq_true this.1.1.1.2), eqBlk_live this.2, Nat.le_of_ble_eq_true this.1.1.2⟩
  have hkey : ∀ b, (r.mi.blk b).kind ≠ 0 → b = 0 ∨ ∃ x ∈ r.K, x.1 = b := fun b hb => by
    rcases layM_blk (m := m00) (L := r.K) (nx := r.N) b with ⟨e, _⟩ | ⟨k, hk, _⟩
    · have e : r.mi.blk b = m00.blk b := e
      rw [e, m00_blk] at hb
      split at hb
      · rename_i h; exact .inl h.symm
      · exact absurd rfl hb
    · exact .inr ⟨_, hk, rfl⟩
  refine ⟨⟨wf_lay wf_m00 rfl hN hK, e1.symm, e2.symm, e3.symm, by rw [e3, e1]; exact hN, rfl, by rw [e4, e2], rfl, List.isEmpty_iff.1 m5, rfl, List.isEmpty_iff.1 m6, rfl, Option.isNone_iff_eq_none.1 m7, rfl, List.isEmpty_iff.1 m8, rfl, Nat.eq_of_beq_eq_true m9, fun b hb => ?_, fun b hb => ?_⟩,
    ⟨Nat.eq_of_beq_eq_true q1, Nat.eq_of_beq_eq_true q2, Nat.eq_of_beq_eq_true q3, List.isEmpty_iff.1 q4, List.isEmpty_iff.1 q5, Option.isNone_iff_eq_none.1 q6, Nat.eq_of_beq_eq_true q7, fun b _ hb => ?_, Nat.le_of_ble_eq_true q8, Nat.le_of_ble_eq_true q9, fun x hx => ?_⟩⟩
  · rcases hkey b hb with rfl | ⟨x, hx, rfl⟩
    · exact eqBlk_same m10
    · exact eqBlk_same (m11 x hx)
  · rw [e3] at hb
    exact Nat.le_of_ble_eq_true (m12 b (List.mem_range.2 hb))
  · rcases hkey b hb with rfl | ⟨x, hx, rfl⟩
    · exact eqBlk_same q11
    · have := q12 x hx
      simp only [Bool.and_eq_true] at this
      exact eqBlk_same this.1.2
  · have := q13 x hx
    simp only [Bool.and_eq_true] at this
    exact ⟨Nat.le_of_ble_eq_true this.1.1.1, Nat.lt_of_lt_of_le (Nat.lt_succ_self _) (Nat.le_of_ble_eq_true this.1.1.2), eqBlk_same this.2, eqBlk_live this.2, Nat.le_of_ble_eq_true this.1.2⟩
theorem rows_ok {Fin : Value → World → Prop} {call : CallT} (C : CallOk Tryz.prog X0 true (Jn Fin) Mv call) : ∀ {rows : List Row}, (∀ r ∈ rows, r.fact call = true ∧ bodied Tryz.prog r.f = true) → CallOk Tryz.prog X0 true (Jn Fin) Mv (twRows rows)
  | [], _ => by intro f args m v m' hw h; cases h
  | r :: l, hr => by
    intro f args m v m' hw h
    unfold twRows at h
    split at h
    · rename_i hc
      rw [Bool.and_eq_true] at hc
      have e1 := Nat.eq_of_beq_eq_true hc.1
      have e2 := eqL_eq (fun a b => eqV_eq) hc.2
      split at h
      · rename_i hf
        simp only [Option.some.injEq, Prod.mk.injEq] at h
        obtain ⟨rfl, rfl⟩ := h
        obtain ⟨h1, h2⟩ := hr r (List.mem_cons_self ..)
        unfold Row.fact at h1
        split at h1
        · rename_i v' mq hcall
          rw [Bool.and_eq_true] at h1
          have ev := eqV_eq h1.1
          obtain ⟨hi, hq⟩ := row_inn h1.2 hf
          rw [← ev] at hcall
          rw [← e1, ← e2]
          obtain ⟨k1, k2⟩ := keep_ok (Fin := Fin) C hcall h2 hi hq
          exact ⟨k1, fun hb => (by rw [h2] at hb; cases hb), fun _ => k2⟩
        · cases h1
      · cases h
    · exact rows_ok C (fun x hx => hr x (List.mem_cons_of_mem _ hx)) f args m v m' hw h
end Go.AM
/-
  THE ROWS OF 'Logic': how a query's row is written; the database that 'known' makes.
-/
set_option linter.unusedVariables false
set_option linter.unusedSimpArgs false
set_option maxRecDepth 1000000
namespace Go.AM
open Go Go.Conc Go.Proofs

/-- 'spelled' as it is known: the starter's calls otherwise. -/
theorem lookSp_mem {w : List UInt8} {a b : Int} {k : Nat} : ∀ {l : List SpRow}, lookSp w a b l = some k → ∃ r ∈ l, r.word = w ∧ a = (r.first : Int) ∧ b = (r.last : Int) ∧ r.kind = k
  | [], h => by cases h
  | r :: l, h => by
    unfold lookSp at h
    split at h
    · rename_i hc
      simp only [Bool.and_eq_true, decide_eq_true_eq] at hc
      exact ⟨r, List.mem_cons_self .., eqBytes_eq hc.1.1.2, hc.1.2, hc.2, by simpa using h⟩
    · obtain ⟨x, h1, h2⟩ := lookSp_mem h
      exact ⟨x, List.mem_cons_of_mem _ h1, h2⟩
theorem bodied_sp : bodied Tryz.prog 78 = true ∧ bodied Tryz.prog 12 = true ∧ bodied Tryz.prog 14 = true ∧ bodied Tryz.prog 19 = true ∧ bodied Tryz.prog 15 = true := by
  refine ⟨?_, ?_, ?_, ?_, ?_⟩ <;> kernel_rfl
theorem globals_size : Tryz.prog.globals.size = 12 := by kernel_rfl
theorem glob_m00 : GlobM Tryz.prog.globals.size m00 := by
  rw [globals_size]
  refine ⟨wf_m00, Nat.le_refl _, Nat.le_refl _, Nat.le_refl _, rfl, rfl, rfl, fun b hb => ?_, fun o v hv => ?_⟩
  · rw [m00_blk]
    split
    · rename_i h; exact .inr ⟨h.symm, rfl⟩
    · exact .inl rfl
  · rw [m00_blk, if_pos rfl] at hv
    have hv : spell0[o]? = some (some v) := hv
    have h : (spell0.all fun x => match x with | some y => plain1 y | none => false) = true := by kernel_rfl
    have := List.all_eq_true.1 h _ (List.mem_of_getElem? hv)
    exact this
theorem twS_ok {Fin : Value → World → Prop} : CallOk Tryz.prog X0 true (Jn Fin) Mv twS := by
  intro f args m v m' hw h
  unfold twS at h
  split at h
  · rename_i hf
    have hf := Nat.eq_of_beq_eq_true hf
    subst hf
    split at h
    · rename_i w a b
      split at h
      · rename_i k hk
        split at h
        · rename_i hm
          simp only [Option.some.injEq, Prod.mk.injEq] at h
          obtain ⟨rfl, rfl⟩ := h
          obtain ⟨r, hr, e1, rfl, rfl, rfl⟩ := lookSp_mem hk
          have hfact := List.all_eq_true.1 sp_facts r hr
          unfold spRowOk at hfact
          split at hfact
          · rename_i n mg' hcall
            rw [Bool.and_eq_true] at hfact
            have en := of_decide_eq_true hfact.1
            subst en
            have ew : (⟨r.word.toArray⟩ : ByteArray) = w := by
              cases w
              simp only at e1
              rw [e1]
            rw [ew] at hcall
            have hasg : HasG m00 m := by
              unfold hasGB at hm
              simp only [Bool.and_eq_true] at hm
              obtain ⟨⟨⟨⟨⟨⟨⟨h1, h2⟩, h3⟩, h4⟩, h5⟩, h6⟩, h7⟩, h8⟩ := hm
              have e0 : m00.blk 0 = { kind := 1, cs := spell0 } := by rw [m00_blk, if_pos rfl]
              exact ⟨Option.isNone_iff_eq_none.1 h1, Nat.eq_of_beq_eq_true h2, List.isEmpty_iff.1 h3, List.isEmpty_iff.1 h4, Nat.lt_of_succ_le (Nat.le_of_ble_eq_true h5), Nat.eq_of_beq_eq_true h6, by rw [e0]; exact Nat.eq_of_beq_eq_true h7, by rw [e0]; exact eqCs_eq h8⟩
            obtain ⟨c, hc⟩ := twin_ok (Fin := Fin) (worker_callW fine_tryz 40) glob_m00 (by rw [globals_size]; rfl) hcall (Nat.eq_of_beq_eq_true hfact.2) bodied_sp.1 (by rfl) (by rfl) hasg
            exact ⟨Mv.refl m, fun hb => (by rw [bodied_sp.1] at hb; cases hb), fun _ => ⟨c, hc⟩⟩
          · cases hfact
        · cases h
      · cases h
    · cases h
  · cases h
/-- The starter's calls, 'spelled' being known. -/
noncomputable def Ct : CallT := callT Tryz.prog X0 (callW Tryz.prog X0 60) twS 60
theorem Ct_ok {Fin : Value → World → Prop} : CallOk Tryz.prog X0 true (Jn Fin) Mv Ct := callT_ok fine_tryz (worker_callW fine_tryz 60) twS_ok 60

/-- What 'known' leaves: the database. -/
def KL : List (Nat × Blk) := [
  (12, { kind := 2, clock := 1, es := #[⟨.string ⟨#[101]⟩, .pointer (some ⟨129, 0, none⟩), 0⟩] }),
  (13, { kind := 1, pos := 1, cs := [some (.int .i32 0), some (.int .u32 0), some (.map (some 12))] }),
  (96, { kind := 1, sz := 2, cs := [some (.string ⟨#[97]⟩), some (.int .i64 1), some (.string ⟨#[98]⟩), some (.int .i64 1)] }),
  (129, { kind := 1, pos := 1, cs := [some (.slice (some ⟨96, 0, none⟩) 2 INF), some (.slice (some ⟨664, 0, none⟩) 3 INF)] }),
  (622, { kind := 1, sz := 4, cs := [some (.int .i64 1), some (.int .i64 1), some (.string ⟨#[]⟩), some (.bool false), some (.int .i64 1), some (.int .i64 2), some (.string ⟨#[]⟩), some (.bool false)] }),
  (630, { kind := 1, sz := 4, cs := [some (.int .i64 1), some (.int .i64 2), some (.string ⟨#[]⟩), some (.bool false), some (.int .i64 1), some (.int .i64 3), some (.string ⟨#[]⟩), some (.bool false)] }),
  (638, { kind := 1, sz := 4, cs := [some (.int .i64 1), some (.int .i64 3), some (.string ⟨#[]⟩), some (.bool false), some (.int .i64 1), some (.int .i64 1), some (.string ⟨#[]⟩), some (.bool false)] }),
  (664, { kind := 1, sz := 1, cs := [some (.slice (some ⟨622, 0, none⟩) 2 2), some (.slice (some ⟨630, 0, none⟩) 2 2), some (.slice (some ⟨638, 0, none⟩) 2 2)] })]
def krow : Row := { f := 14, args := [], K := [], N := 12, v := .pointer (some ⟨13, 0, none⟩), L := KL, nx := 1225 }
/-- A query that answers one row of one cell: true. -/
def qrow (text : List UInt8) (N k1 k2 r c : Nat) : Row :=
  { f := 12, args := [.pointer (some ⟨13, 0, none⟩), .string ⟨text.toArray⟩], K := KL, N := N,
    v := .tuple #[.agg #[.slice (some ⟨k1, 0, none⟩) 1 INF, .slice (some ⟨k2, 0, none⟩) 1 INF, .slice (some ⟨r, 0, none⟩) 1 INF, .int .i64 0], .int .i64 0, .int .i64 0],
    L := [(r, { kind := 1, sz := 1, cs := [some (.slice (some ⟨c, 0, none⟩) 1 1)] }), (c, { kind := 1, sz := 4, cs := [some (.int .i64 3), some (.int .i64 0), some (.string ⟨#[]⟩), some (.bool true)] })], nx := N + 1000 }
end Go.AM
