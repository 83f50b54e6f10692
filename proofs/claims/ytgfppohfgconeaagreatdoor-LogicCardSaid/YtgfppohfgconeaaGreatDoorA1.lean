/-
  AN ABSTRACT, SEQUENTIAL MACHINE for pieces of the program's code: definitions alone. Memory is a table of blocks with numbers of its own; append always makes a new block and takes the old one away; goroutines that a WaitGroup joins are run one behind the other, with the places that they may write lent to them.
-/
import Derived.Calls
import Derived.Laws.Sem
import Derived.Conc.Events
import Derived.Laws.Append
set_option linter.unusedVariables false
set_option linter.unusedSimpArgs false
namespace Go.AM
open Go

/-! ### memory -/
structure Blk where
  kind : Nat := 0
  sz : Nat := 0
  cs : List (Option Value) := []
  es : Array MapEntry := #[]
  clock : Nat := 0
  str : ByteArray := .empty
  pos : Nat := 0
  stamp : Nat := 0

def lput {α : Type} (d : α) : List α → Nat → α → List α
  | [], 0, v => [v]
  | [], i + 1, v => d :: lput d [] i v
  | _ :: t, 0, v => v :: t
  | x :: t, i + 1, v => x :: lput d t i v

def lget {α : Type} (d : α) : List α → Nat → α
  | [], _ => d
  | x :: _, 0 => x
  | _ :: t, i + 1 => lget d t i

/-- Eight of a kind. -/
structure N8 (α : Type) where
  a : α
  b : α
  c : α
  d : α
  e : α
  f : α
  g : α
  h : α
def N8.all {α : Type} (x : α) : N8 α := ⟨x, x, x, x, x, x, x, x⟩
def N8.get {α : Type} (n : N8 α) (i : Nat) : α :=
  match i with
  | 0 => n.a
  | 1 => n.b
  | 2 => n.c
  | 3 => n.d
  | 4 => n.e
  | 5 => n.f
  | 6 => n.g
  | _ => n.h
def N8.put {α : Type} (n : N8 α) (i : Nat) (x : α) : N8 α :=
  match n with
  | ⟨a, b, c, d, e, f, g, h⟩ =>
    match i with
    | 0 => ⟨x, b, c, d, e, f, g, h⟩
    | 1 => ⟨a, x, c, d, e, f, g, h⟩
    | 2 => ⟨a, b, x, d, e, f, g, h⟩
    | 3 => ⟨a, b, c, x, e, f, g, h⟩
    | 4 => ⟨a, b, c, d, x, f, g, h⟩
    | 5 => ⟨a, b, c, d, e, x, g, h⟩
    | 6 => ⟨a, b, c, d, e, f, x, h⟩
    | _ => ⟨a, b, c, d, e, f, g, x⟩
theorem N8.get_all {α : Type} (x : α) (i : Nat) : (N8.all x).get i = x := by
  unfold N8.get N8.all
  split <;> rfl
theorem N8.get_put {α : Type} (n : N8 α) (x : α) {i j : Nat} (hi : i < 8) (hj : j < 8) : (n.put i x).get j = if i = j then x else n.get j := by
  match i, j, hi, hj with
  | 0, 0, _, _ | 0, 1, _, _ | 0, 2, _, _ | 0, 3, _, _ | 0, 4, _, _ | 0, 5, _, _ | 0, 6, _, _ | 0, 7, _, _ => rfl
  | 1, 0, _, _ | 1, 1, _, _ | 1, 2, _, _ | 1, 3, _, _ | 1, 4, _, _ | 1, 5, _, _ | 1, 6, _, _ | 1, 7, _, _ => rfl
  | 2, 0, _, _ | 2, 1, _, _ | 2, 2, _, _ | 2, 3, _, _ | 2, 4, _, _ | 2, 5, _, _ | 2, 6, _, _ | 2, 7, _, _ => rfl
  | 3, 0, _, _ | 3, 1, _, _ | 3, 2, _, _ | 3, 3, _, _ | 3, 4, _, _ | 3, 5, _, _ | 3, 6, _, _ | 3, 7, _, _ => rfl
  | 4, 0, _, _ | 4, 1, _, _ | 4, 2, _, _ | 4, 3, _, _ | 4, 4, _, _ | 4, 5, _, _ | 4, 6, _, _ | 4, 7, _, _ => rfl
  | 5, 0, _, _ | 5, 1, _, _ | 5, 2, _, _ | 5, 3, _, _ | 5, 4, _, _ | 5, 5, _, _ | 5, 6, _, _ | 5, 7, _, _ => rfl
  | 6, 0, _, _ | 6, 1, _, _ | 6, 2, _, _ | 6, 3, _, _ | 6, 4, _, _ | 6, 5, _, _ | 6, 6, _, _ | 6, 7, _, _ => rfl
  | 7, 0, _, _ | 7, 1, _, _ | 7, 2, _, _ | 7, 3, _, _ | 7, 4, _, _ | 7, 5, _, _ | 7, 6, _, _ | 7, 7, _, _ => rfl

abbrev Hp1 := N8 Blk
abbrev Hp2 := N8 Hp1
abbrev Hp3 := N8 Hp2
abbrev Hp4 := N8 Hp3
def hp1 : Hp1 := N8.all {}
def hp2 : Hp2 := N8.all hp1
def hp3 : Hp3 := N8.all hp2
def hp4 : Hp4 := N8.all hp3
abbrev Heap := List Hp4
def dig (b k : Nat) : Nat := Nat.mod (Nat.div b k) 8
def get4 (n : Hp4) (b : Nat) : Blk := (((n.get (dig b 512)).get (dig b 64)).get (dig b 8)).get (Nat.mod b 8)
def put4 (n : Hp4) (b : Nat) (k : Blk) : Hp4 :=
  n.put (dig b 512) ((n.get (dig b 512)).put (dig b 64) (((n.get (dig b 512)).get (dig b 64)).put (dig b 8) ((((n.get (dig b 512)).get (dig b 64)).get (dig b 8)).put (Nat.mod b 8) k)))
def Heap.get (h : Heap) (b : Nat) : Blk := get4 (lget hp4 h (Nat.div b 4096)) b
def Heap.put (h : Heap) (b : Nat) (k : Blk) : Heap := lput hp4 h (Nat.div b 4096) (put4 (lget hp4 h (Nat.div b 4096)) b k)

/-- Blocks lo to hi - 1: the cell x of each, or all of each. -/
abbrev Span := Nat × Nat × Option Nat
def covers (l : List Span) (b o : Nat) : Bool := l.any fun s => decide (s.1 ≤ b) && decide (b < s.2.1) && (match s.2.2 with | none => true | some y => y == o)
def coversAll (l : List Span) (b : Nat) : Bool := l.any fun s => decide (s.1 ≤ b) && decide (b < s.2.1) && s.2.2.isNone
def meets (l : List Span) (b o n : Nat) : Bool := l.any fun s => decide (s.1 ≤ b) && decide (b < s.2.1) && (match s.2.2 with | none => true | some y => decide (o ≤ y) && decide (y < o + n))
def touchesBlk (l : List Span) (b : Nat) : Bool := l.any fun s => decide (s.1 ≤ b) && decide (b < s.2.1)

structure Snap where
  lo : Nat
  hi : Nat
  lent : List Span
  hid : List Span
  heap : Heap

structure Mem where
  heap : Heap
  next : Nat
  tick : Nat
  base : Nat
  home : Nat
  floor : Nat
  opn : List Span
  hid : List Span
  wg : Option Nat
  pend : List Snap
  deaf : Nat

def Mem.blk (m : Mem) (b : Nat) : Blk := m.heap.get b
def Mem.setBlk (m : Mem) (b : Nat) (k : Blk) : Mem := { m with heap := m.heap.put b { k with stamp := m.tick }, tick := m.tick + 1 }
def Mem.alloc (m : Mem) (k : Blk) : Mem := { m with heap := m.heap.put m.next { k with stamp := m.tick }, tick := m.tick + 1, next := m.next + 1 }

def takeLive : List (Option Value) → Nat → Option (List Value)
  | _, 0 => some []
  | some v :: t, n + 1 => (takeLive t n).map (v :: ·)
  | _, _ => none
def putLive : List (Option Value) → Nat → List Value → Option (List (Option Value))
  | l, _, [] => some l
  | some _ :: t, 0, v :: vs => (putLive t 0 vs).map (some v :: ·)
  | x :: t, i + 1, vs => (putLive t i vs).map (x :: ·)
  | _, _, _ => none
def Mem.loads (m : Mem) (b o n : Nat) : Option (List Value) :=
  let k := m.blk b
  if k.kind == 1 && !meets m.hid b o n then takeLive (k.cs.drop o) n else none
def Mem.mayWrite (m : Mem) (b o n : Nat) : Bool :=
  !meets m.hid b o n && decide (m.base ≤ b) && (decide (m.floor ≤ b) || coversAll m.opn b || (List.range n).all fun i => covers m.opn b (o + i))
def Mem.stores (m : Mem) (b o : Nat) (vs : List Value) : Option Mem :=
  let k := m.blk b
  if k.kind == 1 && m.mayWrite b o vs.length && vs.all (·.oneCell') then (putLive k.cs o vs).map fun cs => m.setBlk b { k with cs := cs } else none
/-- The whole row of cells is ours to write, and to take away. -/
def Mem.ownsAll (m : Mem) (b : Nat) : Bool := !touchesBlk m.hid b && decide (m.base ≤ b) && (decide (m.floor ≤ b) || coversAll m.opn b)
/-- The object that is no row of cells is ours. -/
def Mem.ownsObj (m : Mem) (b : Nat) : Bool := !touchesBlk m.hid b && decide (m.home ≤ b)

/-! ### values -/
def INF : Nat := 18446744073709551616
def plain1 : Value → Bool
  | .bool _ | .int _ _ | .string _ | .nilIface | .nilFunc | .pointer none | .slice none _ _ | .map none => true
  | _ => false
def plain : Value → Bool
  | .agg cs => cs.toList.all plain1
  | .tuple cs => cs.toList.all plain1
  | v => plain1 v
def ptrTo (b o : Nat) : Value := .pointer (some ⟨b, o, none⟩)
def _root_.Go.Sem.pureRun {α : Type} (P : Program) : Sem α → Option α
  | .pure a => some a
  | .program k => (k P).pureRun P
  | _ => none

/-! ### types -/
def aggT (P : Program) (t : TypeId) : Option Bool := (P.underlying t).map fun d => match d with | .struct _ | .array _ _ => true | _ => false
def sizeT (P : Program) (t : TypeId) : Option Nat := (P.info? t).map (·.size)
/-- A type's zero value: it holds no address, and is as long as the type says. -/
def zeroT (P : Program) (t : TypeId) : Option Value :=
  match P.info? t with
  | some i => match i.zero with
    | some z => if z.cells.toList.all plain1 && z.cells.size == i.size then some z else none
    | none => none
  | none => none

/-! ### operations -/
def loadA (P : Program) (t : TypeId) (p : Value) (m : Mem) : Option Value :=
  match p with
  | .pointer (some ⟨b, o, none⟩) =>
    match aggT P t with
    | some true => (sizeT P t).bind fun n => (m.loads b o n).map fun l => .agg l.toArray
    | some false => (m.loads b o 1).bind (·.head?)
    | none => none
  | _ => none
def storeA (P : Program) (t : TypeId) (p x : Value) (m : Mem) : Option Mem :=
  match p with
  | .pointer (some ⟨b, o, none⟩) => if sizeT P t = some x.cells.size then m.stores b o x.cells.toList else none
  | _ => none
def newCells (m : Mem) (sz : Nat) (cs : List Value) : Value × Mem := (ptrTo m.next 0, m.alloc { kind := 1, sz := sz, cs := cs.map some, pos := 1 })
def partA (P : Program) (t : TypeId) (cs : Array Value) (off : Nat) : Option Value :=
  match aggT P t with
  | some true => (sizeT P t).map fun n => .agg (cs.extract off (off + n))
  | some false => cs[off]?
  | none => none
def fieldAddrA (P : Program) (s : TypeId) (p : Value) (f : Nat) : Option Value :=
  match P.underlying s, p with
  | some (.struct fields), .pointer (some ⟨b, o, none⟩) =>
    match fields[f]? with
    | some fd => match sizeT P fd.type with
      | some (_ + 1) => some (ptrTo b (o + fd.offset))
      | _ => none
    | none => none
  | _, _ => none
def fieldA (P : Program) (s : TypeId) (x : Value) (f : Nat) : Option Value :=
  match P.underlying s, x with
  | some (.struct fields), .agg cs => (fields[f]?).bind fun fd => partA P fd.type cs fd.offset
  | _, _ => none
def indexAddrA (P : Program) (t : TypeId) (x i : Value) : Option Value :=
  match P.underlying t, x, i with
  | some (.slice e), .slice (some ⟨b, o, none⟩) len _, .int _ n =>
    if 0 ≤ n ∧ n < len then (sizeT P e).map fun s => ptrTo b (o + n.toNat * s) else none
  | some (.array len e), .pointer (some ⟨b, o, none⟩), .int _ n =>
    if 0 ≤ n ∧ n < len then (sizeT P e).map fun s => ptrTo b (o + n.toNat * s) else none
  | _, _, _ => none
def indexA (P : Program) (t : TypeId) (x i : Value) : Option Value :=
  match P.underlying t, x, i with
  | some (.array len e), .agg cs, .int _ n => if 0 ≤ n ∧ n < len then (sizeT P e).bind fun s => partA P e cs (n.toNat * s) else none
  | _, _, _ => none
def boundA (v : Option Value) (d : Nat) : Option Nat :=
  match v with
  | none => some d
  | some (.int _ n) => if 0 ≤ n then some n.toNat else none
  | _ => none
def sliceA (P : Program) (t : TypeId) (x : Value) (lo hi : Option Value) (m : Mem) : Option Value :=
  match P.underlying t, x with
  | some (.slice e), .slice (some ⟨b, o, none⟩) len cap =>
    match boundA lo 0, boundA hi len, sizeT P e with
    | some l, some h, some s =>
      if cap = INF then
        (if l ≤ h ∧ h ≤ len ∧ (l = 0 ∨ (l < len ∧ (m.blk b).kind = 1 ∧ (m.blk b).sz = s)) then some (.slice (some ⟨b, o + l * s, none⟩) (h - l) INF) else none)
      else if cap < INF ∧ l ≤ h ∧ h ≤ cap then some (.slice (some (if cap = l then ⟨b, o, none⟩ else ⟨b, o + l * s, none⟩)) (h - l) (cap - l)) else none
    | _, _, _ => none
  | some (.slice e), .slice none len cap =>
    match boundA lo 0, boundA hi len, sizeT P e with
    | some l, some h, some s => if cap < INF ∧ l ≤ h ∧ h ≤ cap then some (.slice none (h - l) (cap - l)) else none
    | _, _, _ => none
  | some (.array n e), .pointer (some ⟨b, o, none⟩) =>
    match boundA lo 0, boundA hi n, sizeT P e with
    | some l, some h, some s => if n < INF ∧ l ≤ h ∧ h ≤ n then some (.slice (some (if n = l then ⟨b, o, none⟩ else ⟨b, o + l * s, none⟩)) (h - l) (n - l)) else none
    | _, _, _ => none
  | _, _ => none
/-- The cells of the first n elements. -/
def firstA (m : Mem) (size n : Nat) : Value → Option (List Value)
  | .slice (some ⟨b, o, none⟩) _ _ => m.loads b o (n * size)
  | .slice none _ _ => some []
  | .string s => if size = 1 ∧ n = s.size then some (s.data.toList.map fun b => .int .u8 b.toNat) else none
  | _ => none
def lenA : Value → Option Nat
  | .slice _ n _ => some n
  | .string s => some s.size
  | _ => none
def growOk (P : Program) (e : TypeId) (need : Nat) : Bool := match P.info? e with | some i => decide (0 < i.bytes) && decide (need * i.bytes ≤ 2 ^ 46) && decide (need ≤ 2 ^ 46) && (zeroT P e).isSome | none => false
def appendA (P : Program) (ats : Array TypeId) (s x : Value) (m : Mem) : Option (Value × Mem) :=
  match (ats[0]?).bind P.underlying, ats[1]?, s with
  | some (.slice e), some xt, .slice base len cap =>
    match sizeT P e, lenA x, P.underlying xt with
    | some size, some n, some (.slice _) =>
      match firstA m size n x with
      | none => none
      | some new =>
        if growOk P e (len + n) = false ∨ new.length ≠ n * size ∨ new.all (·.oneCell') = false then none else
        if cap = INF then
          match base with
          | some ⟨b, o, none⟩ =>
            let k := m.blk b
            if k.kind == 1 && k.sz == size && m.ownsAll b && (k.cs.drop o).all (·.isSome) then
              match takeLive (k.cs.drop o) (len * size) with
              | some old =>
                let m' := (m.setBlk b {}).alloc { kind := 1, sz := size, cs := (old ++ new).map some }
                some (.slice (some ⟨m.next, 0, none⟩) (len + n) INF, m')
              | none => none
            else none
          | _ => none
        else if len + n ≤ cap then
          match base with
          | some ⟨b, o, none⟩ => (m.stores b (o + len * size) new).map fun m' => (.slice base (len + n) cap, m')
          | none => some (.slice none (len + n) cap, m)
          | _ => none
        else match firstA m size len s with
          | some old => if old.length = len * size then some (.slice (some ⟨m.next, 0, none⟩) (len + n) INF, m.alloc { kind := 1, sz := size, cs := (old ++ new).map some }) else none
          | none => none
    | _, _, _ => none
  | _, _, _ => none
def copyA (P : Program) (ats : Array TypeId) (d s : Value) (m : Mem) : Option (Value × Mem) :=
  match (ats[0]?).bind P.underlying, d with
  | some (.slice e), .slice base dl _ =>
    match sizeT P e, lenA s with
    | some size, some sl =>
      match s with
      | .slice .. =>
        (firstA m size (Nat.min sl dl) s).bind fun cells =>
          match base with
          | some ⟨b, o, none⟩ => (m.stores b o cells).map fun m' => (goInt (Nat.min sl dl : Nat), m')
          | none => some (goInt (Nat.min sl dl : Nat), m)
          | _ => none
      | _ => none
    | _, _ => none
  | _, _ => none
def clearA (P : Program) (ats : Array TypeId) (x : Value) (m : Mem) : Option (Value × Mem) :=
  match (ats[0]?).bind P.underlying, x with
  | some (.slice e), .slice base n _ =>
    match base with
    | none => some (.tuple #[], m)
    | some ⟨b, o, none⟩ =>
      if n = 0 then some (.tuple #[], m)
      else (zeroT P e).bind fun z => (m.stores b o (Builtin.zeroCells z.cells n).toList).map fun m' => (.tuple #[], m')
    | _ => none
  | _, _ => none

def eqNil (P : Program) (t : TypeId) (xc yc : Bool) (x y : Value) : Option Bool :=
  match P.underlying t, x, y with
  | some (.pointer _), .pointer none, .pointer b => some b.isNone
  | some (.pointer _), .pointer (some _), .pointer none => some false
  | some (.slice _), .slice none _ _, .slice b _ _ => some b.isNone
  | some (.slice _), .slice (some _) _ _, .slice none _ _ => some false
  | some (.interface _), .nilIface, .nilIface => if xc || yc then some true else none
  | some (.interface _), .nilIface, .iface _ _ => some false
  | some (.interface _), .iface _ _, .nilIface => some false
  | _, _, _ => none
def isConst : Operand → Bool
  | .const _ => true
  | _ => false

def strKeys : List MapEntry → Bool
  | [] => true
  | e :: es => (match e.key with | .string _ => true | _ => false) && strKeys es
def findStr (s : ByteArray) : List MapEntry → Nat → Option (Nat × Value)
  | [], _ => none
  | e :: es, i => match e.key with | .string k => if s == k then some (i, e.val) else findStr s es (i + 1) | _ => none
def lookupA (P : Program) (t : TypeId) (x k : Value) (ok : Bool) (m : Mem) : Option Value :=
  match P.underlying t, x, k with
  | some (.map kt et), .map r, .string s =>
    match P.underlying kt, zeroT P et with
    | some .string, some z =>
      match (match r with
        | none => some #[]
        | some b => let q := m.blk b; if q.kind == 2 && m.ownsObj b then some q.es else none) with
      | some es => if strKeys es.toList then
          let v := match findStr s es.toList 0 with | some (_, v) => (v, true) | none => (z, false)
          some (if ok then .tuple #[v.1, .bool v.2] else v.1)
        else none
      | none => none
    | _, _ => none
  | _, _, _ => none
def mapUpdateA (P : Program) (t : TypeId) (x k v : Value) (m : Mem) : Option Mem :=
  match P.underlying t, x, k with
  | some (.map kt _), .map (some b), .string s =>
    match P.underlying kt with
    | some .string =>
      let q := m.blk b
      if q.kind == 2 && m.ownsObj b && strKeys q.es.toList then
        match findStr s q.es.toList 0 with
        | some (i, _) => some (m.setBlk b { q with es := q.es.modify i fun e => { e with key := k, val := v } })
        | none => some (m.setBlk b { q with es := q.es.push { key := k, val := v, born := q.clock }, clock := q.clock + 1 })
      else none
    | _ => none
  | _, _, _ => none
def typeAssertA (P : Program) (x : Value) (t a : TypeId) (ok : Bool) : Option Value :=
  match P.underlying a, x, ok with
  | some (.interface _), _, _ => none
  | some _, .nilIface, true => (zeroT P a).map fun z => .tuple #[z, .bool false]
  | some _, .iface d v, true => if d = a then some (.tuple #[v, .bool true]) else (zeroT P a).map fun z => .tuple #[z, .bool false]
  | _, _, _ => none
def buildA (P : Program) (t : TypeId) (parts : List (Nat × Value)) : Option Value :=
  match zeroT P t, P.underlying t with
  | some z, some (.struct fields) =>
    match fields.mapM (m := Option) fun f => (sizeT P f.type).map fun n => (f.offset, n) with
    | some places => (Instr.fill (places[·]?) z.cells parts).map .agg
    | none => none
  | some z, some (.array _ e) => (sizeT P e).bind fun n => (Instr.fill (fun i => some (i * n, n)) z.cells parts).map .agg
  | _, _ => none
def buildSliceA (P : Program) (t : TypeId) (len : Nat) (parts : List (Nat × Value)) (m : Mem) : Option (Value × Mem) :=
  match P.underlying t with
  | some (.slice e) =>
    match sizeT P e, zeroT P e with
    | some size, some z =>
      if len * size > 2 ^ 24 ∨ INF ≤ len then none else
      (Instr.fill (fun i => some (i * size, size)) ((Array.range (len * size)).map (z.cells[· % z.cells.size]!)) parts).map fun cs =>
        (.slice (some ⟨m.next, 0, none⟩) len len, m.alloc { kind := 1, sz := size, cs := cs.toList.map some })
    | _, _ => none
  | _ => none
def makeSliceA (P : Program) (t : TypeId) (l c : Value) (m : Mem) : Option (Value × Mem) :=
  match P.underlying t, l, c with
  | some (.slice e), .int .i64 l, .int .i64 c =>
    match P.info? e, zeroT P e with
    | some i, some z =>
      if 0 ≤ l ∧ l ≤ c ∧ c * i.bytes ≤ 2 ^ 40 ∧ c ≤ 2 ^ 40 then
        some (.slice (some ⟨m.next, 0, none⟩) l.toNat c.toNat,
          m.alloc { kind := 1, sz := i.size, cs := (((Array.range (c.toNat * i.size)).map (z.cells[· % z.cells.size]!)).toList.map some) })
      else none
    | _, _ => none
  | _, _, _ => none
/-- A pointer is made one of no type. -/
def convertA (P : Program) (s d : TypeId) (x : Value) (m : Mem) : Option (Value × Mem) :=
  match P.underlying s, P.underlying d, x with
  | some (.pointer t), some .unsafePointer, .pointer (some ⟨b, o, none⟩) =>
    let k := m.blk b
    match sizeT P t with
    | some (_ + 1) => if k.kind == 1 && decide (o < k.cs.length) then some (x, m) else none
    | _ => none
  | some .string, some (.slice e), .string s =>
    match P.underlying e with
    | some (.int .u8) => if s.size = 0 ∨ s.size > 2 ^ 46 then none else
        some (.slice (some ⟨m.next, 0, none⟩) s.size INF, m.alloc { kind := 1, sz := 1, cs := s.data.toList.map fun b => some (.int .u8 b.toNat) })
    | _ => none
  | some (.slice e), some .string, .slice a len _ =>
    match P.underlying e, a with
    | some (.int .u8), none => some (.string .empty, m)
    | some (.int .u8), some ⟨b, o, none⟩ =>
      (m.loads b o len).bind fun l => (l.mapM (m := Option) fun v => match v with | .int .u8 n => some (UInt8.ofNat n.toNat) | _ => none).map fun bs => (.string ⟨bs.toArray⟩, m)
    | _, _ => none
  | _, _, _ => none
def rangeA (P : Program) (t : TypeId) (x : Value) (m : Mem) : Option (Value × Mem) :=
  match P.underlying t, x with
  | some .string, .string s => some (ptrTo m.next 0, m.alloc { kind := 3, str := s, pos := 0 })
  | _, _ => none
def nextA (it : Value) (isS : Bool) (m : Mem) : Option (Value × Mem) :=
  match it, isS with
  | .pointer (some ⟨b, 0, none⟩), true =>
    let k := m.blk b
    if k.kind == 3 && m.ownsObj b then
      if k.pos < k.str.size then
        let d := Utf8.decode k.str k.pos
        some (.tuple #[.bool true, goInt k.pos, .int .i32 d.1], m.setBlk b { k with pos := k.pos + d.2 })
      else some (.tuple #[.bool false], m)
    else none
  | _, _ => none

/-- What reads no memory and hangs on plain operands alone: as the model itself has it. -/
def plainOp (P : Program) (ev : Operand → Value) (o : Oper) : Option Value :=
  if o.op.operands.all (fun x => plain (ev x)) then
    match (execOp ev o).pureRun P with
    | some (.value v) => if plain v then some v else none
    | _ => none
  else none

def methodA (P : Program) (recv : Value) (name : String) : Option (Nat × Value) :=
  match recv with
  | .iface t v =>
    match P.info? t, P.underlying t with
    | some i, some (.pointer _) =>
      match i.methods.find? (·.name == name) with
      | some mt => match mt.path.toList, mt.func with
        | [], some (f, true) => some (f, v)
        | _, _ => none
      | none => none
    | _, _ => none
  | _ => none

/-- An operation that is no call. -/
def opA (P : Program) (ev : Operand → Value) (o : Oper) (m : Mem) : Option (Value × Mem) :=
  match o.op with
  | .move x => some (ev x, m)
  | .assign x => some (ev x, m)
  | .pick c a b => match ev c with | .bool t => some (if t then ev a else ev b, m) | _ => none
  | .alloc e => (zeroT P e).map fun z => newCells m 0 z.cells.toList
  | .box _ v => some (newCells m 0 (ev v).cells.toList)
  | .build t ps => (buildA P t (ps.map fun (i, x) => (i, ev x)).toList).map fun v => (v, m)
  | .buildSlice t n ps => buildSliceA P t n (ps.map fun (i, x) => (i, ev x)).toList m
  | .load t a => (loadA P t (ev a) m).map fun v => (v, m)
  | .store t a x => (storeA P t (ev a) (ev x) m).map fun m' => (undef, m')
  | .nilCheck x => match ev x with
    | .pointer (some a) => some (.pointer (some a), m)
    | .func (.method name) first cap => match (first[0]? : Option Value) with
      | some r => if (methodA P r name).isSome then some (.func (.method name) first cap, m) else none
      | none => none
    | _ => none
  | .binOp op t x y _ =>
    match op with
    | .eql => match eqNil P t (isConst x) (isConst y) (ev x) (ev y) with | some b => some (.bool b, m) | none => (plainOp P ev o).map fun v => (v, m)
    | .neq => match eqNil P t (isConst x) (isConst y) (ev x) (ev y) with | some b => some (.bool (!b), m) | none => (plainOp P ev o).map fun v => (v, m)
    | _ => (plainOp P ev o).map fun v => (v, m)
  | .unOp .. => (plainOp P ev o).map fun v => (v, m)
  | .convert s d x => match convertA P s d (ev x) m with | some r => some r | none => (plainOp P ev o).map fun v => (v, m)
  | .makeInterface t x => match P.underlying t with | some (.interface _) => none | some _ => some (.iface t (ev x), m) | none => none
  | .makeFunc fn f c => some (.func fn (f.map ev) (c.map ev), m)
  | .makeMap _ none => some (.map (some m.next), m.alloc { kind := 2 })
  | .makeSlice t l c => makeSliceA P t (ev l) (ev c) m
  | .slice t x lo hi none => match sliceA P t (ev x) (lo.map ev) (hi.map ev) m with | some v => some (v, m) | none => (plainOp P ev o).map fun v => (v, m)
  | .fieldAddr s x f => (fieldAddrA P s (ev x) f).map fun v => (v, m)
  | .field s x f => (fieldA P s (ev x) f).map fun v => (v, m)
  | .indexAddr t x i => (indexAddrA P t (ev x) (ev i)).map fun v => (v, m)
  | .index t x i => match indexA P t (ev x) (ev i) with | some v => some (v, m) | none => (plainOp P ev o).map fun v => (v, m)
  | .lookup t x i ok => (lookupA P t (ev x) (ev i) ok m).map fun v => (v, m)
  | .mapUpdate t x k v => (mapUpdateA P t (ev x) (ev k) (ev v) m).map fun m' => (undef, m')
  | .typeAssert x t a ok => (typeAssertA P (ev x) t a ok).map fun v => (v, m)
  | .extract t i => match ev t with | .tuple vs => (vs[i]?).map fun v => (v, m) | _ => none
  | .range t x => rangeA P t (ev x) m
  | .next it s => nextA (ev it) s m
  | .call { callee := .builtin b, args, argTypes } =>
    match b, args.toList with
    | .append, [s, x] => appendA P argTypes (ev s) (ev x) m
    | .copy, [d, s] => copyA P argTypes (ev d) (ev s) m
    | .clear, [x] => clearA P argTypes (ev x) m
    | .len, [x] => match (argTypes[0]?).bind P.underlying, ev x with
      | some (.slice _), .slice _ n _ => some (goInt n, m)
      | _, _ => (plainOp P ev o).map fun v => (v, m)
    | .min, _ => (plainOp P ev o).map fun v => (v, m)
    | .max, _ => (plainOp P ev o).map fun v => (v, m)
    | _, _ => none
  | _ => none

/-! ### functions without a body -/
structure Ext where
  disable : Nat
  enable : Nat
  acquire : Nat
  relMerge : Nat
  cas32 : Nat
  add32 : Nat
  wgGo : Nat
  wgWait : Nat
  fillA : Nat
  fillB : Nat
def extA (X : Ext) (f : Nat) (args : List Value) (m : Mem) : Option (Value × Mem) :=
  if f = X.disable then (match args with | [] => some (.tuple #[], { m with deaf := m.deaf + 1 }) | _ => none)
  else if f = X.enable then (match args with | [] => some (.tuple #[], { m with deaf := m.deaf - 1 }) | _ => none)
  else if f = X.acquire then (match args with | [.pointer (some ⟨_, _, none⟩)] => some (.tuple #[], m) | _ => none)
  else if f = X.relMerge then (match args with | [.pointer (some ⟨_, _, none⟩)] => some (.tuple #[], m) | _ => none)
  else if f = X.cas32 then
    (match args with
     | [.pointer (some ⟨b, o, none⟩), .int .i32 x, .int .i32 y] =>
       match m.loads b o 1 with
       | some [.int .i32 v] => if v = x then (m.stores b o [.int .i32 y]).map fun m' => (.bool true, m') else if m.base ≤ b then some (.bool false, m) else none
       | _ => none
     | _ => none)
  else if f = X.add32 then
    (match args with
     | [.pointer (some ⟨b, o, none⟩), .int .i32 y] =>
       match m.loads b o 1 with
       | some [.int .i32 v] => (m.stores b o [.int .i32 (IntKind.i32.wrap (v + y))]).map fun m' => (.int .i32 (IntKind.i32.wrap (v + y)), m')
       | _ => none
     | _ => none)
  else none

/-! ### goroutines that a WaitGroup joins -/
abbrev CallT := Nat → List Value → Mem → Option (Value × Mem)
/-- What a closure that fills a share speaks of: the block and the cell at which the shares begin, and its number. -/
def shareA (X : Ext) (clo : Value) (m : Mem) : Option (Nat × Nat × Nat) :=
  match clo with
  | .func (.func f) _ cap =>
    if f = X.fillA ∨ f = X.fillB then
      match (cap[0]? : Option Value), (cap[1]? : Option Value) with
      | some (.pointer (some ⟨pb, po, none⟩)), some (.pointer (some ⟨ib, io, none⟩)) =>
        match m.loads pb po 1, m.loads ib io 1 with
        | some [.pointer (some ⟨d, o, none⟩)], some [.int .i64 i] => if 0 ≤ i then some (d, o, i.toNat) else none
        | _, _ => none
      | _, _ => none
    else none
  | _ => none
/-- The places that share number j is lent: its two cells, and the room of its list. -/
def lentA (m : Mem) (d o j : Nat) : Option (List Span) :=
  match m.loads d (o + 2 * j) 1 with
  | some [.slice (some ⟨b, _, none⟩) _ _] => some [(d, d + 1, some (o + 2 * j)), (d, d + 1, some (o + 2 * j + 1)), (b, b + 1, none)]
  | some [.slice none _ _] => some [(d, d + 1, some (o + 2 * j)), (d, d + 1, some (o + 2 * j + 1))]
  | _ => none
def lentAll (m : Mem) (d o : Nat) : Nat → Option (List Span)
  | 0 => some []
  | j + 1 => match lentAll m d o j, lentA m d o j with
    | some l, some l' => some (l' ++ l)
    | _, _ => none
/-- May these places be lent? -/
def lendOk (m : Mem) (s : Span) : Bool :=
  decide (s.2.1 = s.1 + 1) && decide (m.base ≤ s.1) && decide (m.floor ≤ s.1) && decide (s.1 < m.next) && (m.blk s.1).kind == 1 &&
    (match s.2.2 with | some o => (((m.blk s.1).cs[o]?).any (·.isSome)) | none => (m.blk s.1).cs.all (·.isSome))
def apartS : List Span → Bool
  | [] => true
  | s :: l => (l.all fun t => s.1 != t.1 || (match s.2.2, t.2.2 with | some x, some y => x != y | _, _ => false)) && apartS l
def callFnA (call : CallT) (fv : Value) (args : List Value) (m : Mem) : Option (Value × Mem) :=
  match fv with
  | .func (.func f) first cap => call f (first.toList ++ args ++ cap.toList) m
  | _ => none
/-- The first goroutine of a group: the group's own cells are given away; what is to be lent is told apart. -/
def groupA (w d o : Nat) (m : Mem) : Option Mem :=
  match m.wg with
  | some w' => if w = w' then some m else none
  | none => match m.loads w 0 2, lentAll m d o 4 with
    | some [.int .u64 0, .int .u32 0], some l =>
      if m.mayWrite w 0 2 && m.ownsAll w && (m.blk w).pos == 1 && decide ((m.blk w).cs.length = 2) && decide (m.hid = []) && decide (m.opn = []) && decide (m.pend = []) && decide (m.floor = m.base) && l.all (fun s => lendOk m s && s.1 != w) && apartS l
      then some { m.setBlk w {} with wg := some w, opn := l, floor := m.next } else none
    | _, _ => none
def apart2 (s t : Span) : Bool := Nat.ble s.2.1 t.1 || Nat.ble t.2.1 s.1 || (match s.2.2, t.2.2 with | some x, some y => x != y | _, _ => false)
def spawnA (X : Ext) (callW : CallT) (args : List Value) (m : Mem) : Option (Value × Mem) :=
  match args with
  | [.pointer (some ⟨w, 0, none⟩), clo] =>
    match shareA X clo m with
    | some (d, o, i) =>
      match groupA w d o m with
      | some m₀ =>
        -- what Go's own frame captures
        let m := (newCells (newCells m₀ 0 [ptrTo w 0]).2 0 [clo]).2
        match lentA m d o i with
        | some l =>
          let rest := m.opn.filter fun s => !l.contains s
          if m.deaf = 0 ∧ m.pend.length < 4 ∧ (l.all fun s => m.opn.contains s) = true ∧ apartS l = true ∧ (l.all fun s => (rest ++ m.hid).all (apart2 s)) = true ∧ ((rest ++ l).all fun t => Nat.ble t.2.1 m₀.next) = true ∧ (l.all fun s => Nat.beq s.2.1 (s.1 + 1) && Nat.beq (m.blk s.1).kind 1) = true then
            match callFnA callW clo [] { m with home := m.next, floor := m.next, opn := l, hid := rest ++ m.hid, wg := none, pend := [] } with
            | some (_, m2) => if m2.deaf = 0 then
                some (.tuple #[], { m2 with home := m.home, floor := m2.next, opn := rest, wg := m.wg, hid := (m.next, m2.next, none) :: (l ++ m.hid),
                                            pend := { lo := m.next, hi := m2.next, lent := l, hid := rest ++ m.hid, heap := m2.heap } :: m.pend })
              else none
            | none => none
          else none
        | none => none
      | none => none
    | none => none
  | _ => none
def joinA (args : List Value) (m : Mem) : Option (Value × Mem) :=
  match args, m.wg with
  | [.pointer (some ⟨w, 0, none⟩)], some w' => if w = w' ∧ m.deaf = 0 ∧ m.opn = [] ∧ Nat.ble m.base m.next = true then some (.tuple #[], { m with hid := [], floor := m.base, wg := none, pend := [] }) else none
  | _, _ => none

/-! ### regions whose order is open -/
def light (o : Oper) : Bool :=
  match o.op with
  | .move _ | .assign _ | .pick .. | .fieldAddr .. | .field .. | .extract .. | .unOp .. | .binOp .. | .makeInterface .. | .makeFunc .. | .typeAssert .. | .nilCheck _
  | .index .. | .indexAddr .. | .slice .. | .build .. | .load .. | .lookup .. | .alloc _ | .box .. | .buildSlice .. | .makeSlice .. | .makeMap .. => true
  | .call { callee := .builtin b, .. } => match b with | .len | .min | .max => true | _ => false
  | _ => false
def heavies (ops : Array Oper) : List Nat := (List.range ops.size).filter fun i => (ops[i]?).any fun o => !light o
def chainOk (bef : Array Nat) : List Nat → Bool
  | a :: b :: l => (bef.getD b 0).testBit a && chainOk bef (b :: l)
  | _ => true
def fromA (bef : Array Nat) (hs : List Nat) (i : Nat) : Nat := (hs.filter fun h => (bef.getD i 0).testBit h).length
def tillA (bef : Array Nat) (hs : List Nat) (i : Nat) : Nat := (hs.filter fun h => !(bef.getD h 0).testBit i).length
def seesT (ops : Array Oper) (o : Oper) : List Tmp :=
  (o.op.operands.toList.filterMap fun x => match x with | .tmp t => some t | _ => none) ++ (match o.guard with | some (g, _) => ((ops[g]?).bind (·.dst)).toList | none => [])
def tidy (ops : Array Oper) (bef : Array Nat) : Bool :=
  (List.range ops.size).all fun i => (List.range ops.size).all fun j =>
    match ops[i]?, ops[j]? with
    | some x, some y => (match y.dst with
      | some d => (i == j || x.dst != some d) && (!(seesT ops x).contains d || ((bef.getD i 0).testBit j || (bef.getD j 0).testBit i))
      | none => true)
    | _, _ => true
end Go.AM
/-
  VALUES AND MEMORY OF THE ABSTRACT MACHINE AGAINST THE MODEL's: which abstract block lies where ('Ren'), when two values are the same but for that ('VRel'), when a world holds what the abstract memory holds ('Sim').
-/
set_option linter.unusedVariables false
set_option linter.unusedSimpArgs false
namespace Go.AM
open Go

/-! ### lists, pair by pair -/
def Rel2 {α β : Type} (R : α → β → Prop) : List α → List β → Prop
  | [], [] => True
  | a :: l, b :: r => R a b ∧ Rel2 R l r
  | _, _ => False

section
variable {α β γ : Type} {R S : α → β → Prop}
theorem Rel2.length {l : List α} {r : List β} (h : Rel2 R l r) : l.length = r.length := by
  induction l generalizing r with
  | nil => cases r <;> simp_all [Rel2]
  | cons a l ih => cases r with
    | nil => exact h.elim
    | cons b r => simp [ih h.2]
theorem Rel2.mono {l : List α} {r : List β} (h : Rel2 R l r) (hs : ∀ a b, R a b → S a b) : Rel2 S l r := by
  induction l generalizing r with
  | nil => cases r <;> simp_all [Rel2]
  | cons a l ih => cases r with
    | nil => exact h.elim
    | cons b r => exact ⟨hs _ _ h.1, ih h.2⟩
theorem Rel2.get {l : List α} {r : List β} (h : Rel2 R l r) {i : Nat} {a : α} (ha : l[i]? = some a) : ∃ b, r[i]? = some b ∧ R a b := by
  induction l generalizing r i with
  | nil => simp at ha
  | cons x l ih => cases r with
    | nil => exact h.elim
    | cons b r => cases i with
      | zero => simp at ha; subst ha; exact ⟨b, rfl, h.1⟩
      | succ i => simp at ha; simpa using ih h.2 ha
theorem Rel2.get' {l : List α} {r : List β} (h : Rel2 R l r) {i : Nat} {b : β} (hb : r[i]? = some b) : ∃ a, l[i]? = some a ∧ R a b := by
  induction l generalizing r i with
  | nil => cases r <;> simp_all [Rel2]
  | cons x l ih => cases r with
    | nil => exact h.elim
    | cons y r => cases i with
      | zero => simp at hb; subst hb; exact ⟨x, rfl, h.1⟩
      | succ i => simp at hb; simpa using ih h.2 hb
theorem Rel2.of_get {l : List α} {r : List β} (hl : l.length = r.length) (h : ∀ (i : Nat) a b, l[i]? = some a → r[i]? = some b → R a b) : Rel2 R l r := by
  induction l generalizing r with
  | nil => cases r <;> simp_all [Rel2]
  | cons x l ih => cases r with
    | nil => simp at hl
    | cons y r => exact ⟨h 0 _ _ rfl rfl, ih (by simpa using hl) fun i a b ha hb => h (i + 1) a b (by simpa using ha) (by simpa using hb)⟩
theorem Rel2.append {l l₂ : List α} {r r₂ : List β} (h : Rel2 R l r) (h₂ : Rel2 R l₂ r₂) : Rel2 R (l ++ l₂) (r ++ r₂) := by
  induction l generalizing r with
  | nil => cases r <;> simp_all [Rel2]
  | cons a l ih => cases r with
    | nil => exact h.elim
    | cons b r => exact ⟨h.1, ih h.2⟩
theorem Rel2.map {α' β' : Type} {T : α' → β' → Prop} {f : α → α'} {g : β → β'} {l : List α} {r : List β} (h : Rel2 R l r) (hs : ∀ a b, R a b → T (f a) (g b)) : Rel2 T (l.map f) (r.map g) := by
  induction l generalizing r with
  | nil => cases r <;> simp_all [Rel2]
  | cons a l ih => cases r with
    | nil => exact h.elim
    | cons b r => exact ⟨hs _ _ h.1, ih h.2⟩
theorem Rel2.map_same {δ : Type} {f : δ → α} {g : δ → β} {l : List δ} (h : ∀ x ∈ l, R (f x) (g x)) : Rel2 R (l.map f) (l.map g) := by
  induction l with
  | nil => trivial
  | cons a l ih => exact ⟨h a (by simp), ih fun x hx => h x (by simp [hx])⟩
theorem Rel2.set {l : List α} {r : List β} (h : Rel2 R l r) {a : α} {b : β} (hab : R a b) (i : Nat) : Rel2 R (l.set i a) (r.set i b) := by
  induction l generalizing r i with
  | nil => cases r <;> simp_all [Rel2]
  | cons x l ih => cases r with
    | nil => exact h.elim
    | cons y r => cases i with
      | zero => exact ⟨hab, h.2⟩
      | succ i => exact ⟨h.1, ih h.2 i⟩
theorem Rel2.drop {l : List α} {r : List β} (h : Rel2 R l r) (i : Nat) : Rel2 R (l.drop i) (r.drop i) := by
  induction l generalizing r i with
  | nil => cases r <;> simp_all [Rel2]
  | cons x l ih => cases r with
    | nil => exact h.elim
    | cons y r => cases i with
      | zero => exact h
      | succ i => exact ih h.2 i
theorem Rel2.take {l : List α} {r : List β} (h : Rel2 R l r) (i : Nat) : Rel2 R (l.take i) (r.take i) := by
  induction l generalizing r i with
  | nil => cases r <;> simp_all [Rel2]
  | cons x l ih => cases r with
    | nil => exact h.elim
    | cons y r => cases i with
      | zero => trivial
      | succ i => exact ⟨h.1, ih h.2 i⟩
theorem Rel2.replicate {a : α} {b : β} (h : R a b) (n : Nat) : Rel2 R (List.replicate n a) (List.replicate n b) := by
  induction n with
  | zero => trivial
  | succ n ih => exact ⟨h, ih⟩
theorem Rel2.refl {R : α → α → Prop} {l : List α} (h : ∀ a ∈ l, R a a) : Rel2 R l l := by
  induction l with
  | nil => trivial
  | cons a l ih => exact ⟨h a (by simp), ih fun x hx => h x (by simp [hx])⟩
theorem Rel2.eq {l r : List α} (h : Rel2 (fun a b => b = a) l r) : r = l := by
  induction l generalizing r with
  | nil => cases r <;> simp_all [Rel2]
  | cons a l ih => cases r with
    | nil => exact h.elim
    | cons b r => rw [h.1, ih h.2]
theorem Rel2.getD {l : List α} {r : List β} (h : Rel2 R l r) {a : α} {b : β} (hab : R a b) (i : Nat) : R (l.getD i a) (r.getD i b) := by
  simp only [List.getD_eq_getElem?_getD]
  cases hl : l[i]? with
  | none =>
    have : r[i]? = none := by
      have := h.length
      simp only [List.getElem?_eq_none_iff] at *
      omega
    simp [this, hab]
  | some x =>
    obtain ⟨y, hy, hxy⟩ := h.get hl
    simp [hy, hxy]
end

/-! ### values -/
structure Pl where
  c : Nat
  d : Nat
  room : Nat
  sz : Nat
abbrev Ren := Nat → Option Pl
def Ren.le (ρ ρ' : Ren) : Prop := ∀ b p, ρ b = some p → ρ' b = some p
theorem Ren.le_refl (ρ : Ren) : ρ.le ρ := fun _ _ h => h
theorem Ren.le_trans {ρ ρ₁ ρ₂ : Ren} (h : ρ.le ρ₁) (h' : ρ₁.le ρ₂) : ρ.le ρ₂ := fun b p x => h' b p (h b p x)

def VR (ρ : Ren) : Nat → Value → Value → Prop
  | 0, _, _ => False
  | n + 1, v, v' =>
    match v with
    | .pointer (some a) => ∃ p, ρ a.block = some p ∧ a.spot = none ∧ v' = .pointer (some ⟨p.c, p.d + a.off, none⟩)
    | .slice (some a) len cap => ∃ p cap', ρ a.block = some p ∧ a.spot = none ∧ v' = .slice (some ⟨p.c, p.d + a.off, none⟩) len cap' ∧ (if cap = INF then len ≤ cap' ∧ a.off + cap' * p.sz ≤ p.room else cap' = cap)
    | .map (some r) => ∃ p, ρ r = some p ∧ v' = .map (some p.c)
    | .func fn f c => ∃ f' c', v' = .func fn f' c' ∧ Rel2 (VR ρ n) f.toList f'.toList ∧ Rel2 (VR ρ n) c.toList c'.toList
    | .iface t x => ∃ x', v' = .iface t x' ∧ VR ρ n x x'
    | .agg cs => ∃ cs', v' = .agg cs' ∧ Rel2 (VR ρ n) cs.toList cs'.toList
    | .tuple cs => ∃ cs', v' = .tuple cs' ∧ Rel2 (VR ρ n) cs.toList cs'.toList
    | v => v' = v
def VRel (ρ : Ren) (v v' : Value) : Prop := ∃ n, VR ρ n v v'

section
variable {ρ ρ' : Ren}
theorem VR.more : ∀ {n : Nat} {v v' : Value}, VR ρ n v v' → VR ρ (n + 1) v v' := by
  intro n
  induction n with
  | zero => intro v v' h; exact h.elim
  | succ n ih =>
    intro v v' h
    cases v with
    | pointer a => cases a <;> exact h
    | slice a l c => cases a <;> exact h
    | map r => cases r <;> exact h
    | func fn f c =>
      obtain ⟨f', c', e, h1, h2⟩ := h
      exact ⟨f', c', e, h1.mono fun _ _ => ih, h2.mono fun _ _ => ih⟩
    | iface t x => obtain ⟨x', e, h⟩ := h; exact ⟨x', e, ih h⟩
    | agg cs => obtain ⟨x', e, h⟩ := h; exact ⟨x', e, h.mono fun _ _ => ih⟩
    | tuple cs => obtain ⟨x', e, h⟩ := h; exact ⟨x', e, h.mono fun _ _ => ih⟩
    | _ => exact h
theorem VR.le {n m : Nat} (h : n ≤ m) {v v' : Value} (hv : VR ρ n v v') : VR ρ m v v' := by
  induction h with
  | refl => exact hv
  | step _ ih => exact ih.more
theorem VR.ren (h : ρ.le ρ') : ∀ {n : Nat} {v v' : Value}, VR ρ n v v' → VR ρ' n v v' := by
  intro n
  induction n with
  | zero => intro v v' h; exact h.elim
  | succ n ih =>
    intro v v' hv
    cases v with
    | pointer a => cases a with
      | none => exact hv
      | some a => obtain ⟨p, h1, h2⟩ := hv; exact ⟨p, h _ _ h1, h2⟩
    | slice a l c => cases a with
      | none => exact hv
      | some a => obtain ⟨p, c', h1, h2⟩ := hv; exact ⟨p, c', h _ _ h1, h2⟩
    | map r => cases r with
      | none => exact hv
      | some a => obtain ⟨p, h1, h2⟩ := hv; exact ⟨p, h _ _ h1, h2⟩
    | func fn f c =>
      obtain ⟨f', c', e, h1, h2⟩ := hv
      exact ⟨f', c', e, h1.mono fun _ _ => ih, h2.mono fun _ _ => ih⟩
    | iface t x => obtain ⟨x', e, h⟩ := hv; exact ⟨x', e, ih h⟩
    | agg cs => obtain ⟨x', e, h⟩ := hv; exact ⟨x', e, h.mono fun _ _ => ih⟩
    | tuple cs => obtain ⟨x', e, h⟩ := hv; exact ⟨x', e, h.mono fun _ _ => ih⟩
    | _ => exact hv
theorem VRel.ren (h : ρ.le ρ') {v v' : Value} (hv : VRel ρ v v') : VRel ρ' v v' := let ⟨n, x⟩ := hv; ⟨n, x.ren h⟩
theorem rel2_vrel {l r : List Value} (h : Rel2 (VRel ρ) l r) : ∃ n, Rel2 (VR ρ n) l r := by
  induction l generalizing r with
  | nil => exact ⟨0, by cases r <;> simp_all [Rel2]⟩
  | cons a l ih => cases r with
    | nil => exact h.elim
    | cons b r =>
      obtain ⟨n, hn⟩ := h.1
      obtain ⟨k, hk⟩ := ih h.2
      exact ⟨max n k, hn.le (Nat.le_max_left _ _), hk.mono fun _ _ => VR.le (Nat.le_max_right _ _)⟩
theorem vrel_rel2 {n : Nat} {l r : List Value} (h : Rel2 (VR ρ n) l r) : Rel2 (VRel ρ) l r := h.mono fun _ _ x => ⟨n, x⟩

theorem vrel_agg {cs : Array Value} {v' : Value} : VRel ρ (.agg cs) v' ↔ ∃ cs', v' = .agg cs' ∧ Rel2 (VRel ρ) cs.toList cs'.toList := by
  constructor
  · rintro ⟨n, h⟩
    cases n with
    | zero => exact h.elim
    | succ n => obtain ⟨cs', e, h⟩ := h; exact ⟨cs', e, vrel_rel2 h⟩
  · rintro ⟨cs', e, h⟩
    obtain ⟨n, h⟩ := rel2_vrel h
    exact ⟨n + 1, cs', e, h⟩
theorem vrel_tuple {cs : Array Value} {v' : Value} : VRel ρ (.tuple cs) v' ↔ ∃ cs', v' = .tuple cs' ∧ Rel2 (VRel ρ) cs.toList cs'.toList := by
  constructor
  · rintro ⟨n, h⟩
    cases n with
    | zero => exact h.elim
    | succ n => obtain ⟨cs', e, h⟩ := h; exact ⟨cs', e, vrel_rel2 h⟩
  · rintro ⟨cs', e, h⟩
    obtain ⟨n, h⟩ := rel2_vrel h
    exact ⟨n + 1, cs', e, h⟩
theorem vrel_iface {t : TypeId} {x v' : Value} : VRel ρ (.iface t x) v' ↔ ∃ x', v' = .iface t x' ∧ VRel ρ x x' := by
  constructor
  · rintro ⟨n, h⟩
    cases n with
    | zero => exact h.elim
    | succ n => obtain ⟨cs', e, h⟩ := h; exact ⟨cs', e, n, h⟩
  · rintro ⟨cs', e, n, h⟩
    exact ⟨n + 1, cs', e, h⟩
theorem vrel_func {fn : Fn} {f c : Array Value} {v' : Value} : VRel ρ (.func fn f c) v' ↔ ∃ f' c', v' = .func fn f' c' ∧ Rel2 (VRel ρ) f.toList f'.toList ∧ Rel2 (VRel ρ) c.toList c'.toList := by
  constructor
  · rintro ⟨n, h⟩
    cases n with
    | zero => exact h.elim
    | succ n => obtain ⟨f', c', e, h, h2⟩ := h; exact ⟨f', c', e, vrel_rel2 h, vrel_rel2 h2⟩
  · rintro ⟨f', c', e, h, h2⟩
    obtain ⟨n, h⟩ := rel2_vrel h
    obtain ⟨k, h2⟩ := rel2_vrel h2
    exact ⟨max n k + 1, f', c', e, h.mono fun _ _ => VR.le (Nat.le_max_left _ _), h2.mono fun _ _ => VR.le (Nat.le_max_right _ _)⟩
theorem vrel_ptr {a : Addr} {v' : Value} : VRel ρ (.pointer (some a)) v' ↔ ∃ p, ρ a.block = some p ∧ a.spot = none ∧ v' = .pointer (some ⟨p.c, p.d + a.off, none⟩) := by
  constructor
  · rintro ⟨n, h⟩
    cases n with
    | zero => exact h.elim
    | succ n => exact h
  · intro h; exact ⟨1, h⟩
theorem vrel_slice {a : Addr} {len cap : Nat} {v' : Value} : VRel ρ (.slice (some a) len cap) v' ↔ ∃ p cap', ρ a.block = some p ∧ a.spot = none ∧ v' = .slice (some ⟨p.c, p.d + a.off, none⟩) len cap' ∧ (if cap = INF then len ≤ cap' ∧ a.off + cap' * p.sz ≤ p.room else cap' = cap) := by
  constructor
  · rintro ⟨n, h⟩
    cases n with
    | zero => exact h.elim
    | succ n => exact h
  · intro h; exact ⟨1, h⟩
theorem vrel_map {r : Nat} {v' : Value} : VRel ρ (.map (some r)) v' ↔ ∃ p, ρ r = some p ∧ v' = .map (some p.c) := by
  constructor
  · rintro ⟨n, h⟩
    cases n with
    | zero => exact h.elim
    | succ n => exact h
  · intro h; exact ⟨1, h⟩
/-- A value of no address. -/
theorem vrel_same {v v' : Value} (hv : plain1 v = true) : VRel ρ v v' ↔ v' = v := by
  constructor
  · rintro ⟨n, h⟩
    cases n with
    | zero => exact h.elim
    | succ n => cases v with
      | pointer a => cases a <;> simp_all [plain1, VR]
      | slice a l c => cases a <;> simp_all [plain1, VR]
      | map a => cases a <;> simp_all [plain1, VR]
      | _ => first | exact h | (simp [plain1] at hv)
  · intro h
    refine ⟨1, ?_⟩
    cases v with
    | pointer a => cases a <;> simp_all [plain1, VR]
    | slice a l c => cases a <;> simp_all [plain1, VR]
    | map a => cases a <;> simp_all [plain1, VR]
    | _ => first | exact h | (simp [plain1] at hv)
theorem rel2_plain1 {l r : List Value} (hl : l.all plain1 = true) (h : Rel2 (VRel ρ) l r) : r = l := by
  induction l generalizing r with
  | nil => cases r <;> simp_all [Rel2]
  | cons a l ih => cases r with
    | nil => exact h.elim
    | cons b r =>
      simp only [List.all_cons, Bool.and_eq_true] at hl
      rw [(vrel_same hl.1).1 h.1, ih hl.2 h.2]
theorem plain1_rel2 {l : List Value} (hl : l.all plain1 = true) : Rel2 (VRel ρ) l l := by
  refine Rel2.refl fun a ha => (vrel_same ?_).2 rfl
  exact List.all_eq_true.1 hl a ha
theorem vrel_plain {v v' : Value} (hv : plain v = true) (h : VRel ρ v v') : v' = v := by
  cases v with
  | agg cs =>
    obtain ⟨cs', e, h2⟩ := vrel_agg.1 h
    have := rel2_plain1 hv h2
    rw [e, Array.ext' this]
  | tuple cs =>
    obtain ⟨cs', e, h2⟩ := vrel_tuple.1 h
    have := rel2_plain1 hv h2
    rw [e, Array.ext' this]
  | _ => exact (vrel_same (by exact hv)).1 h
theorem plain_vrel {v : Value} (hv : plain v = true) : VRel ρ v v := by
  cases v with
  | agg cs => exact vrel_agg.2 ⟨cs, rfl, plain1_rel2 hv⟩
  | tuple cs => exact vrel_tuple.2 ⟨cs, rfl, plain1_rel2 hv⟩
  | _ => exact (vrel_same (by exact hv)).2 rfl
theorem vrel_undef : VRel ρ undef undef := plain_vrel rfl
theorem vrel_unit : VRel ρ (.tuple #[]) (.tuple #[]) := plain_vrel rfl
/-- The cells of two such values. -/
theorem VRel.cells {v v' : Value} (h : VRel ρ v v') : Rel2 (VRel ρ) v.cells.toList v'.cells.toList := by
  cases v with
  | agg cs => obtain ⟨cs', e, h2⟩ := vrel_agg.1 h; subst e; exact h2
  | tuple cs => obtain ⟨cs', rfl, _⟩ := vrel_tuple.1 h; exact ⟨h, trivial⟩
  | iface t x => obtain ⟨x', rfl, _⟩ := vrel_iface.1 h; exact ⟨h, trivial⟩
  | func fn f c => obtain ⟨f', c', rfl, _⟩ := vrel_func.1 h; exact ⟨h, trivial⟩
  | pointer a => cases a with
    | none => have := (vrel_same (by rfl)).1 h; subst this; exact ⟨h, trivial⟩
    | some a => obtain ⟨p, _, _, rfl⟩ := vrel_ptr.1 h; exact ⟨h, trivial⟩
  | slice a l c => cases a with
    | none => have := (vrel_same (by rfl)).1 h; subst this; exact ⟨h, trivial⟩
    | some a => obtain ⟨p, c', _, _, rfl, _⟩ := vrel_slice.1 h; exact ⟨h, trivial⟩
  | map r => cases r with
    | none => have := (vrel_same (by rfl)).1 h; subst this; exact ⟨h, trivial⟩
    | some a => obtain ⟨p, _, rfl⟩ := vrel_map.1 h; exact ⟨h, trivial⟩
  | bool b => have := (vrel_same (by rfl)).1 h; subst this; exact ⟨h, trivial⟩
  | int k n => have := (vrel_same (by rfl)).1 h; subst this; exact ⟨h, trivial⟩
  | string s => have := (vrel_same (by rfl)).1 h; subst this; exact ⟨h, trivial⟩
  | nilFunc => have := (vrel_same (by rfl)).1 h; subst this; exact ⟨h, trivial⟩
  | nilIface => have := (vrel_same (by rfl)).1 h; subst this; exact ⟨h, trivial⟩
  | float k b => obtain ⟨n, h'⟩ := h; cases n with | zero => exact h'.elim | succ n => have e : v' = _ := h'; subst e; exact ⟨⟨1, rfl⟩, trivial⟩
  | complex k a b => obtain ⟨n, h'⟩ := h; cases n with | zero => exact h'.elim | succ n => have e : v' = _ := h'; subst e; exact ⟨⟨1, rfl⟩, trivial⟩
  | chan r => obtain ⟨n, h'⟩ := h; cases n with | zero => exact h'.elim | succ n => have e : v' = _ := h'; subst e; exact ⟨⟨1, rfl⟩, trivial⟩
/-- One cell's value stays one. -/
theorem VRel.oneCell {v v' : Value} (h : VRel ρ v v') (hv : v.oneCell' = true) : v'.oneCell' = true := by
  cases v with
  | agg cs => simp [Value.oneCell'] at hv
  | tuple cs => simp [Value.oneCell'] at hv
  | iface t x => obtain ⟨x', rfl, _⟩ := vrel_iface.1 h; rfl
  | func fn f c => obtain ⟨f', c', rfl, _⟩ := vrel_func.1 h; rfl
  | pointer a => cases a with
    | none => have := (vrel_same (by rfl)).1 h; subst this; rfl
    | some a => obtain ⟨p, _, _, rfl⟩ := vrel_ptr.1 h; rfl
  | slice a l c => cases a with
    | none => have := (vrel_same (by rfl)).1 h; subst this; rfl
    | some a => obtain ⟨p, c', _, _, rfl, _⟩ := vrel_slice.1 h; rfl
  | map r => cases r with
    | none => have := (vrel_same (by rfl)).1 h; subst this; rfl
    | some a => obtain ⟨p, _, rfl⟩ := vrel_map.1 h; rfl
  | _ => obtain ⟨n, h'⟩ := h; cases n with | zero => exact h'.elim | succ n => have e : v' = _ := h'; subst e; exact hv
end
end Go.AM
/-
  THE ABSTRACT MEMORY's OWN LAWS.
-/
set_option linter.unusedVariables false
set_option linter.unusedSimpArgs false
namespace Go.AM
open Go

theorem lget_lput {α : Type} (d : α) (l : List α) (i : Nat) (v : α) (j : Nat) : lget d (lput d l i v) j = if i = j then v else lget d l j := by
  induction l generalizing i j with
  | nil =>
    induction i generalizing j with
    | zero => cases j <;> simp [lput, lget]
    | succ i ih => cases j with
      | zero => simp [lput, lget]
      | succ j => simp [lput, lget, ih]
  | cons x l ih =>
    cases i with
    | zero => cases j <;> simp [lput, lget]
    | succ i => cases j <;> simp [lput, lget, ih]
theorem get_put4 (n : Hp4) (b : Nat) (k : Blk) (b' : Nat) (h : b / 4096 = b' / 4096) : get4 (put4 n b k) b' = if b = b' then k else get4 n b' := by
  have d (x k : Nat) : dig x k = x / k % 8 := rfl
  have e (x : Nat) : Nat.mod x 8 = x % 8 := rfl
  have l (x k : Nat) : dig x k < 8 := by rw [d]; omega
  have l' (x : Nat) : Nat.mod x 8 < 8 := by rw [e]; omega
  unfold get4 put4
  rw [N8.get_put _ _ (l ..) (l ..)]
  by_cases h1 : dig b 512 = dig b' 512
  · rw [if_pos h1, N8.get_put _ _ (l ..) (l ..)]
    by_cases h2 : dig b 64 = dig b' 64
    · rw [if_pos h2, N8.get_put _ _ (l ..) (l ..)]
      by_cases h3 : dig b 8 = dig b' 8
      · rw [if_pos h3, N8.get_put _ _ (l' ..) (l' ..), h1, h2, h3]
        by_cases h4 : Nat.mod b 8 = Nat.mod b' 8
        · rw [if_pos h4, if_pos (by simp only [d, e] at h1 h2 h3 h4; omega)]
        · rw [if_neg h4, if_neg (by rintro rfl; exact h4 rfl)]
      · rw [if_neg h3, if_neg (by rintro rfl; exact h3 rfl), h1, h2]
    · rw [if_neg h2, if_neg (by rintro rfl; exact h2 rfl), h1]
  · rw [if_neg h1, if_neg (by rintro rfl; exact h1 rfl)]
theorem Heap.get_put (h : Heap) (b : Nat) (k : Blk) (b' : Nat) : (h.put b k).get b' = if b = b' then k else h.get b' := by
  unfold Heap.get Heap.put
  rw [lget_lput]
  by_cases h1 : Nat.div b 4096 = Nat.div b' 4096
  · rw [if_pos h1, get_put4 _ _ _ _ h1, h1]
  · rw [if_neg h1, if_neg (by rintro rfl; exact h1 rfl)]
theorem Mem.blk_setBlk (m : Mem) (b : Nat) (k : Blk) (b' : Nat) : (m.setBlk b k).blk b' = if b = b' then { k with stamp := m.tick } else m.blk b' := Heap.get_put ..
theorem Mem.blk_alloc (m : Mem) (k : Blk) (b' : Nat) : (m.alloc k).blk b' = if m.next = b' then { k with stamp := m.tick } else m.blk b' := Heap.get_put ..
section
variable (m : Mem) (b : Nat) (k : Blk)
@[simp] theorem Mem.setBlk_next : (m.setBlk b k).next = m.next := rfl
@[simp] theorem Mem.setBlk_tick : (m.setBlk b k).tick = m.tick + 1 := rfl
@[simp] theorem Mem.setBlk_base : (m.setBlk b k).base = m.base := rfl
@[simp] theorem Mem.setBlk_home : (m.setBlk b k).home = m.home := rfl
@[simp] theorem Mem.setBlk_floor : (m.setBlk b k).floor = m.floor := rfl
@[simp] theorem Mem.setBlk_opn : (m.setBlk b k).opn = m.opn := rfl
@[simp] theorem Mem.setBlk_hid : (m.setBlk b k).hid = m.hid := rfl
@[simp] theorem Mem.setBlk_wg : (m.setBlk b k).wg = m.wg := rfl
@[simp] theorem Mem.setBlk_pend : (m.setBlk b k).pend = m.pend := rfl
@[simp] theorem Mem.setBlk_deaf : (m.setBlk b k).deaf = m.deaf := rfl
@[simp] theorem Mem.alloc_next : (m.alloc k).next = m.next + 1 := rfl
@[simp] theorem Mem.alloc_tick : (m.alloc k).tick = m.tick + 1 := rfl
@[simp] theorem Mem.alloc_base : (m.alloc k).base = m.base := rfl
@[simp] theorem Mem.alloc_home : (m.alloc k).home = m.home := rfl
@[simp] theorem Mem.alloc_floor : (m.alloc k).floor = m.floor := rfl
@[simp] theorem Mem.alloc_opn : (m.alloc k).opn = m.opn := rfl
@[simp] theorem Mem.alloc_hid : (m.alloc k).hid = m.hid := rfl
@[simp] theorem Mem.alloc_wg : (m.alloc k).wg = m.wg := rfl
@[simp] theorem Mem.alloc_pend : (m.alloc k).pend = m.pend := rfl
@[simp] theorem Mem.alloc_deaf : (m.alloc k).deaf = m.deaf := rfl
end

theorem takeLive_spec {l : List (Option Value)} {n : Nat} {vs : List Value} (h : takeLive l n = some vs) : vs.length = n ∧ ∀ i : Nat, i < n → ∃ v, l[i]? = some (some v) ∧ vs[i]? = some v := by
  induction n generalizing l vs with
  | zero =>
    have : vs = [] := by cases l <;> simpa [takeLive] using h.symm
    subst this
    exact ⟨rfl, fun i hi => by omega⟩
  | succ n ih =>
    cases l with
    | nil => simp [takeLive] at h
    | cons x l => cases x with
      | none => simp [takeLive] at h
      | some v =>
        simp only [takeLive, Option.map_eq_some_iff] at h
        obtain ⟨r, hr, rfl⟩ := h
        obtain ⟨h1, h2⟩ := ih hr
        refine ⟨by simp [h1], fun i hi => ?_⟩
        cases i with
        | zero => exact ⟨v, by simp, by simp⟩
        | succ i => simpa using h2 i (by omega)
theorem putLive_spec {l : List (Option Value)} {o : Nat} {vs : List Value} {l' : List (Option Value)} (h : putLive l o vs = some l') :
    l'.length = l.length ∧ (∀ i : Nat, l'[i]? = if o ≤ i ∧ i < o + vs.length then (vs[i - o]?).map some else l[i]?) ∧ (∀ i : Nat, i < vs.length → ∃ v, l[o + i]? = some (some v)) := by
  induction l generalizing o vs l' with
  | nil =>
    cases vs with
    | nil =>
      simp [putLive] at h
      subst h
      exact ⟨rfl, fun i => by simp, fun i hi => by simp at hi⟩
    | cons v vs => cases o <;> simp [putLive] at h
  | cons x l ih =>
    cases vs with
    | nil =>
      simp [putLive] at h
      subst h
      refine ⟨rfl, fun i => ?_, fun i hi => by simp at hi⟩
      simp; omega
    | cons v vs =>
      cases o with
      | zero =>
        cases x with
        | none => simp [putLive] at h
        | some u =>
          simp only [putLive, Option.map_eq_some_iff] at h
          obtain ⟨r, hr, rfl⟩ := h
          obtain ⟨h1, h2, h3⟩ := ih hr
          refine ⟨by simp [h1], fun i => ?_, fun i hi => ?_⟩
          · cases i with
            | zero => simp
            | succ i =>
              have := h2 i
              simp only [Nat.zero_le, true_and, Nat.zero_add, Nat.sub_zero] at this
              simp only [List.getElem?_cons_succ, this, Nat.zero_le, true_and, Nat.zero_add, List.length_cons, Nat.add_lt_add_iff_right, Nat.sub_zero]
          · cases i with
            | zero => exact ⟨u, by simp⟩
            | succ i => simpa using h3 i (by simpa using hi)
      | succ o =>
        simp only [putLive, Option.map_eq_some_iff] at h
        obtain ⟨r, hr, rfl⟩ := h
        obtain ⟨h1, h2, h3⟩ := ih hr
        refine ⟨by simp [h1], fun i => ?_, fun i hi => ?_⟩
        · cases i with
          | zero => simp
          | succ i =>
            have := h2 i
            have e : (o + 1 ≤ i + 1 ∧ i + 1 < o + 1 + (v :: vs).length) = (o ≤ i ∧ i < o + (v :: vs).length) := propext ⟨fun h => ⟨by omega, by omega⟩, fun h => ⟨by omega, by omega⟩⟩
            simp only [List.getElem?_cons_succ, this, e, Nat.add_sub_add_right]
        · obtain ⟨u, hu⟩ := h3 i hi
          exact ⟨u, by rw [show o + 1 + i = (o + i) + 1 by omega]; simpa using hu⟩

/-- A cell that may be looked at. -/
def Mem.cell (m : Mem) (b o : Nat) : Option Value := if (m.blk b).kind = 1 ∧ covers m.hid b o = false then ((m.blk b).cs[o]?).join else none
/-- Places of a block of cells, spare room with them. -/
def Mem.okR (m : Mem) (b o : Nat) : Prop := (m.blk b).kind = 1 ∧ covers m.hid b o = false ∧ (o < (m.blk b).cs.length → ∃ v, (m.blk b).cs[o]? = some (some v))
def Mem.okW (m : Mem) (b o : Nat) : Prop := m.okR b o ∧ (m.floor ≤ b ∨ covers m.opn b o = true)
theorem Mem.okR_of_cell {m : Mem} {b o : Nat} {v : Value} (h : m.cell b o = some v) : m.okR b o := by
  unfold Mem.cell at h
  split at h
  · rename_i hk
    refine ⟨hk.1, hk.2, fun _ => ?_⟩
    cases hc : (m.blk b).cs[o]? with
    | none => simp [hc] at h
    | some x => cases x with
      | none => simp [hc] at h
      | some u => exact ⟨u, rfl⟩
  · cases h
theorem meets_covers {l : List Span} {b o n : Nat} (h : meets l b o n = false) {i : Nat} (hi : i < n) : covers l b (o + i) = false := by
  unfold meets covers at *
  rw [List.any_eq_false] at *
  intro s hs
  have := h s hs
  intro hc
  apply this
  simp only [Bool.and_eq_true] at hc ⊢
  refine ⟨hc.1, ?_⟩
  cases hx : s.2.2 with
  | none => rfl
  | some y =>
    have hc2 := hc.2
    rw [hx] at hc2
    simp at hc2
    simp
    omega
theorem touches_covers {l : List Span} {b : Nat} (h : touchesBlk l b = false) (o : Nat) : covers l b o = false := by
  unfold touchesBlk covers at *
  rw [List.any_eq_false] at *
  intro s hs
  have := h s hs
  intro hc
  apply this
  simp only [Bool.and_eq_true] at hc ⊢
  exact hc.1
theorem touches_meets {l : List Span} {b : Nat} (h : touchesBlk l b = false) (o n : Nat) : meets l b o n = false := by
  unfold touchesBlk meets at *
  rw [List.any_eq_false] at *
  intro s hs
  have := h s hs
  intro hc
  apply this
  simp only [Bool.and_eq_true] at hc ⊢
  exact hc.1
theorem coversAll_covers {l : List Span} {b : Nat} (h : coversAll l b = true) (o : Nat) : covers l b o = true := by
  unfold coversAll covers at *
  rw [List.any_eq_true] at *
  obtain ⟨s, hs, hc⟩ := h
  refine ⟨s, hs, ?_⟩
  simp only [Bool.and_eq_true] at hc ⊢
  refine ⟨hc.1, ?_⟩
  have := hc.2
  cases hx : s.2.2 <;> simp_all
theorem Mem.loads_spec {m : Mem} {b o n : Nat} {vs : List Value} (h : m.loads b o n = some vs) :
    (m.blk b).kind = 1 ∧ vs.length = n ∧ ∀ i : Nat, i < n → ∃ v, vs[i]? = some v ∧ m.cell b (o + i) = some v := by
  unfold Mem.loads at h
  simp only [] at h
  split at h
  · rename_i hk
    simp only [Bool.and_eq_true, beq_iff_eq, Bool.not_eq_true'] at hk
    obtain ⟨h1, h2⟩ := takeLive_spec h
    refine ⟨hk.1, h1, fun i hi => ?_⟩
    obtain ⟨v, hv, hvs⟩ := h2 i hi
    refine ⟨v, hvs, ?_⟩
    unfold Mem.cell
    rw [if_pos ⟨hk.1, meets_covers hk.2 hi⟩]
    rw [List.getElem?_drop] at hv
    simp [hv]
  · cases h
theorem Mem.mayWrite_spec {m : Mem} {b o n : Nat} (h : m.mayWrite b o n = true) {i : Nat} (hi : i < n) : covers m.hid b (o + i) = false ∧ (m.floor ≤ b ∨ covers m.opn b (o + i) = true) := by
  unfold Mem.mayWrite at h
  simp only [Bool.and_eq_true, Bool.not_eq_true', Bool.or_eq_true, decide_eq_true_eq] at h
  refine ⟨meets_covers h.1.1 hi, ?_⟩
  rcases h.2 with (h2 | h2) | h2
  · exact .inl h2
  · exact .inr (coversAll_covers h2 _)
  · rw [List.all_eq_true] at h2
    exact .inr (h2 i (by simpa using hi))
theorem Mem.mayWrite_base {m : Mem} {b o n : Nat} (h : m.mayWrite b o n = true) : m.base ≤ b := by
  unfold Mem.mayWrite at h
  simp only [Bool.and_eq_true, decide_eq_true_eq] at h
  exact h.1.2
theorem Mem.ownsAll_spec {m : Mem} {b : Nat} (h : m.ownsAll b = true) : touchesBlk m.hid b = false ∧ (m.floor ≤ b ∨ coversAll m.opn b = true) := by
  unfold Mem.ownsAll at h
  simp only [Bool.and_eq_true, Bool.not_eq_true', Bool.or_eq_true, decide_eq_true_eq] at h
  exact ⟨h.1.1, h.2⟩
theorem Mem.ownsAll_base {m : Mem} {b : Nat} (h : m.ownsAll b = true) : m.base ≤ b := by
  unfold Mem.ownsAll at h
  simp only [Bool.and_eq_true, decide_eq_true_eq] at h
  exact h.1.2
theorem Mem.stores_spec {m : Mem} {b o : Nat} {vs : List Value} {m' : Mem} (h : m.stores b o vs = some m') :
    ∃ cs, m' = m.setBlk b { m.blk b with cs := cs } ∧ (m.blk b).kind = 1 ∧ m.mayWrite b o vs.length = true ∧ putLive (m.blk b).cs o vs = some cs ∧ ∀ v ∈ vs, v.oneCell' = true := by
  unfold Mem.stores at h
  simp only [] at h
  split at h
  · rename_i hk
    simp only [Bool.and_eq_true, beq_iff_eq] at hk
    rw [Option.map_eq_some_iff] at h
    obtain ⟨cs, hcs, rfl⟩ := h
    exact ⟨cs, rfl, hk.1.1, hk.1.2, hcs, fun v hv => List.all_eq_true.1 hk.2 v hv⟩
  · cases h
end Go.AM
/-
  WHAT A PIECE OF THE MODEL's CODE MAY TOUCH: 'Perm': which cells it may read, which it may write, which blocks that are no cells it may use. 'Sem.ok': it keeps to that and yields something.
-/
set_option linter.unusedVariables false
set_option linter.unusedSimpArgs false
namespace Go.AM
open Go

structure Perm where
  rd : Nat → Nat → Prop
  wr : Nat → Nat → Prop
  ob : Nat → Prop
  deaf : Nat

def markOk : Mark → Prop
  | .disable | .enable | .release _ | .read _ | .write _ => False
  | _ => True

/-- The step keeps to R (blocks from N on are new), yields 'a' and leaves 'w'' where Q holds of them. -/
def okS {α : Type} (P : Program) (R : Perm) (N : Nat) : Sem α → (α → World → Prop) → World → Prop
  | .pure a, Q, w => Q a w
  | .load m a k, Q, w => ∃ v, w.cell? a = some v ∧ R.rd a.block a.off ∧ okS P R N (k v) Q w
  | .store m a v k, Q, w => v.oneCell' = true ∧ (∃ u, w.cell? a = some u) ∧ w.frozen? a = false ∧ R.wr a.block a.off ∧ okS P R N k Q (w.setCell a v)
  | .new o k, Q, w => okS P R N (k w.heap.size) Q { w with heap := w.heap.push o }
  | .shape r k, Q, w => okS P R N (k (w.shape? r)) Q w
  | .freeze a n k, Q, w => N ≤ a.block ∧ okS P R N k Q (w.freeze a n)
  | .frozen a k, Q, w => okS P R N (k (w.frozen? a)) Q w
  | .getObj r k, Q, w => ∃ o, w.heap[r]? = some o ∧ (∀ C t f, o ≠ .cells C t f) ∧ o.isChan = false ∧ R.ob r ∧ okS P R N (k o) Q w
  | .setObj r o k, Q, w => (∃ o', w.heap[r]? = some o' ∧ ∀ C t f, o' ≠ .cells C t f) ∧ (∀ C t f, o ≠ .cells C t f) ∧ o.isChan = false ∧ R.ob r ∧ okS P R N k Q { w with heap := w.heap.setIfInBounds r o }
  | .choose q k, Q, w => okS P R N (k (if q.forced then 0 else q.cut (w.tape w.drawn q))) Q (if q.forced then w else { w with drawn := w.drawn + 1 })
  | .sys _ _, _, _ => False
  | .program k, Q, w => okS P R N (k P) Q w
  | .mark m k, Q, w => markOk m ∧ okS P R N k Q w
  | .halt _, _, _ => False

theorem okS_bind {α β : Type} {P : Program} {R : Perm} {N : Nat} (x : Sem α) (f : α → Sem β) (Q : β → World → Prop) (w : World) :
    okS P R N (x >>= f) Q w ↔ okS P R N x (fun a w' => okS P R N (f a) Q w') w := by
  show okS P R N (x.bind f) Q w ↔ _
  induction x generalizing w with
  | pure a => exact Iff.rfl
  | load m a k ih => simp only [Sem.bind, okS, ih]
  | store m a v k ih => simp only [Sem.bind, okS, ih]
  | new o k ih => simp only [Sem.bind, okS, ih]
  | shape r k ih => simp only [Sem.bind, okS, ih]
  | freeze a n k ih => simp only [Sem.bind, okS, ih]
  | frozen a k ih => simp only [Sem.bind, okS, ih]
  | getObj r k ih => simp only [Sem.bind, okS, ih]
  | setObj r o k ih => simp only [Sem.bind, okS, ih]
  | choose q k ih => simp only [Sem.bind, okS, ih]
  | sys c k ih => simp only [Sem.bind, okS]
  | program k ih => simp only [Sem.bind, okS, ih]
  | mark m k ih => simp only [Sem.bind, okS, ih]
  | halt h => simp only [Sem.bind, okS]
theorem okS_mono {α : Type} {P : Program} {R : Perm} {N : Nat} {x : Sem α} {Q Q' : α → World → Prop} {w : World} (h : okS P R N x Q w) (hq : ∀ a w, Q a w → Q' a w) : okS P R N x Q' w := by
  induction x generalizing w with
  | pure a => exact hq _ _ h
  | load m a k ih => obtain ⟨v, h1, h2, h3⟩ := h; exact ⟨v, h1, h2, ih _ h3⟩
  | store m a v k ih => exact ⟨h.1, h.2.1, h.2.2.1, h.2.2.2.1, ih h.2.2.2.2⟩
  | new o k ih => exact ih _ h
  | shape r k ih => exact ih _ h
  | freeze a n k ih => exact ⟨h.1, ih h.2⟩
  | frozen a k ih => exact ih _ h
  | getObj r k ih => obtain ⟨o, h1, h2, h3, h4, h5⟩ := h; exact ⟨o, h1, h2, h3, h4, ih _ h5⟩
  | setObj r o k ih => exact ⟨h.1, h.2.1, h.2.2.1, h.2.2.2.1, ih h.2.2.2.2⟩
  | choose q k ih => exact ih _ h
  | sys c k ih => exact h
  | program k ih => exact ih _ h
  | mark m k ih => exact ⟨h.1, ih h.2⟩
  | halt h' => exact h

/-- Which cells of a row are frozen. -/
def frz (w : World) (a : Addr) : Option (Nat × Nat) := match w.heap[a.block]? with
  | some (.cells _ _ r) => some r
  | _ => none
theorem frz_froz {w w' : World} {a : Addr} (h : frz w' a = frz w a) : w'.frozen? a = w.frozen? a := by
  have e : ∀ w : World, w.frozen? a = match frz w a with | some (lo, hi) => decide (lo ≤ a.off) && decide (a.off < hi) | none => false := by
    intro w
    unfold World.frozen? frz
    cases w.heap[a.block]? with
    | none => rfl
    | some o => cases o <;> rfl
  rw [e, e, h]
/-- What such a step may have turned. -/
structure Chg (R : Perm) (N : Nat) (w w' : World) : Prop where
  tape : w'.tape = w.tape
  os : w'.os = w.os
  output : w'.output = w.output
  size : w.heap.size ≤ w'.heap.size
  shape : ∀ b, b < N → w'.shape? b = w.shape? b
  cell : ∀ b o, b < N → ¬ R.wr b o → w'.cell? ⟨b, o, none⟩ = w.cell? ⟨b, o, none⟩
  froz : ∀ b o, b < N → frz w' ⟨b, o, none⟩ = frz w ⟨b, o, none⟩
  obj : ∀ b, b < N → ¬ R.ob b → (w.shape? b) = none → w'.heap[b]? = w.heap[b]?
theorem Chg.refl (R : Perm) (N : Nat) (w : World) : Chg R N w w := ⟨rfl, rfl, rfl, Nat.le_refl _, fun _ _ => rfl, fun _ _ _ _ => rfl, fun _ _ _ => rfl, fun _ _ _ _ => rfl⟩
theorem Chg.trans {R : Perm} {N : Nat} {w w₁ w₂ : World} (h : Chg R N w w₁) (k : Chg R N w₁ w₂) : Chg R N w w₂ :=
  ⟨k.tape.trans h.tape, k.os.trans h.os, k.output.trans h.output, Nat.le_trans h.size k.size, fun b hb => (k.shape b hb).trans (h.shape b hb), fun b o hb hw => (k.cell b o hb hw).trans (h.cell b o hb hw),
    fun b o hb => (k.froz b o hb).trans (h.froz b o hb), fun b hb ho hs => (k.obj b hb ho (by rw [h.shape b hb]; exact hs)).trans (h.obj b hb ho hs)⟩

/-- What it may list. -/
def EvOK (R : Perm) (e : Event) : Prop :=
  match e.loc with
  | .cell a => a.spot = none ∧ (if e.write then R.wr a.block a.off else R.rd a.block a.off)
  | .obj r => R.ob r ∧ e.sync = false
  | .mark m => markOk m
  | _ => False

theorem shape_setCell (w : World) (a : Addr) (v : Value) (b : Nat) : (w.setCell a v).shape? b = w.shape? b := by
  unfold World.shape? World.setCell
  simp only [Array.getElem?_modify]
  by_cases h : a.block = b
  · subst h
    cases hb : w.heap[a.block]? with
    | none => simp
    | some o => cases o with
      | cells c e f => simp only [if_true, Option.map_some]; split <;> simp
      | _ => simp
  · simp [h]
theorem cell_setCell (w : World) (a : Addr) (v : Value) (b o : Nat) (ha : a.spot = none) : (w.setCell a v).cell? ⟨b, o, none⟩ = if a.block = b ∧ a.off = o ∧ (w.cell? ⟨b, o, none⟩).isSome then some v else w.cell? ⟨b, o, none⟩ := by
  unfold World.cell? World.setCell
  simp only [Array.getElem?_modify, ha, Option.isSome_none, Bool.false_eq_true, if_false]
  by_cases h : a.block = b
  · subst h
    cases hb : w.heap[a.block]? with
    | none => simp
    | some o' => cases o' with
      | cells c e f =>
        simp only [if_true, Option.map_some, Array.getElem?_setIfInBounds]
        by_cases h2 : a.off = o
        · subst h2
          by_cases h3 : a.off < c.size
          · simp [h3]
          · simp [h3]
        · simp [h2]
      | _ => simp
  · simp [h]
theorem froz_setCell (w : World) (a : Addr) (v : Value) (b o : Nat) : frz (w.setCell a v) ⟨b, o, none⟩ = frz w ⟨b, o, none⟩ := by
  unfold frz World.setCell
  simp only [Array.getElem?_modify]
  by_cases h : a.block = b
  · subst h
    cases hb : w.heap[a.block]? with
    | none => simp
    | some o' => cases o' <;> simp
  · simp [h]
theorem spot_of_cell {w : World} {a : Addr} {v : Value} (h : w.cell? a = some v) : a.spot = none := by
  unfold World.cell? at h
  split at h
  · split at h
    · cases h
    · rename_i h2; simpa using h2
  · cases h
theorem addr_eta {a : Addr} (h : a.spot = none) : a = ⟨a.block, a.off, none⟩ := by cases a; simp_all

theorem okS_sound {α : Type} {P : Program} {R : Perm} {N : Nat} {x : Sem α} {Q : α → World → Prop} {w : World} (hN : N ≤ w.heap.size) (h : okS P R N x Q w) :
    ∃ a w', x.run P w = .ok a w' ∧ Q a w' ∧ Chg R N w w' ∧ ∀ es, ∃ l : List Event, x.events P w es = es ++ l.toArray ∧ ∀ e ∈ l, EvOK R e := by
  induction x generalizing w with
  | pure a => exact ⟨a, w, rfl, h, Chg.refl .., fun es => ⟨[], by simp [Sem.events, Sem.runT, -Sem.runT_eq], by simp⟩⟩
  | load m a k ih =>
    obtain ⟨v, h1, h2, h3⟩ := h
    obtain ⟨x, w', hr, hq, hc, he⟩ := ih v hN h3
    refine ⟨x, w', by simp only [Sem.run, h1]; exact hr, hq, hc, fun es => ?_⟩
    obtain ⟨l, hl, hev⟩ := he (es.push ⟨.cell a, false, m == .atomic⟩)
    refine ⟨⟨.cell a, false, m == .atomic⟩ :: l, ?_, ?_⟩
    · have : (Sem.load m a k).events P w es = (k v).events P w (es.push ⟨.cell a, false, m == .atomic⟩) := by simp only [Sem.events, Sem.runT, h1]
      rw [this, hl]; simp
    · intro e hm
      rcases List.mem_cons.1 hm with rfl | hm
      · exact ⟨spot_of_cell h1, h2⟩
      · exact hev e hm
  | store m a v k ih =>
    obtain ⟨h0, ⟨u, h1⟩, h2, h3, h4⟩ := h
    have hs := spot_of_cell h1
    obtain ⟨x, w', hr, hq, hc, he⟩ := ih (w := w.setCell a v) (by simpa [World.setCell] using hN) h4
    have hrun : (Sem.store m a v k).run P w = k.run P (w.setCell a v) := by
      cases v <;> first | (simp [Value.oneCell'] at h0; done) | simp only [Sem.run, h1, h2, Bool.false_eq_true, if_false]
    have hev' : ∀ es, (Sem.store m a v k).events P w es = k.events P (w.setCell a v) (es.push ⟨.cell a, true, m == .atomic⟩) := by
      intro es
      cases v <;> first | (simp [Value.oneCell'] at h0; done) | simp only [Sem.events, Sem.runT, h1, h2, Bool.false_eq_true, if_false]
    refine ⟨x, w', by rw [hrun]; exact hr, hq, ?_, fun es => ?_⟩
    · refine Chg.trans ?_ hc
      refine ⟨rfl, rfl, rfl, by simp [World.setCell], fun b _ => shape_setCell .., fun b o _ hw => ?_, fun b o _ => froz_setCell .., fun b _ _ hsh => ?_⟩
      · rw [cell_setCell _ _ _ _ _ hs, if_neg]
        rintro ⟨rfl, rfl, _⟩
        exact hw h3
      · have hab : a.block ≠ b := by
          rintro rfl
          unfold World.cell? at h1
          unfold World.shape? at hsh
          split at h1
          · rename_i hh; simp [hh] at hsh
          · cases h1
        unfold World.setCell
        simp only [Array.getElem?_modify, hab, if_false]
    · obtain ⟨l, hl, hev⟩ := he (es.push ⟨.cell a, true, m == .atomic⟩)
      refine ⟨⟨.cell a, true, m == .atomic⟩ :: l, by rw [hev', hl]; simp, ?_⟩
      intro e hm
      rcases List.mem_cons.1 hm with rfl | hm
      · exact ⟨hs, h3⟩
      · exact hev e hm
  | new o k ih =>
    obtain ⟨x, w', hr, hq, hc, he⟩ := ih w.heap.size (w := { w with heap := w.heap.push o }) (by simp; omega) h
    refine ⟨x, w', hr, hq, Chg.trans ?_ hc, he⟩
    have hlt : ∀ b, b < N → (w.heap.push o)[b]? = w.heap[b]? := fun b hb => by rw [Array.getElem?_push_lt (by omega)]; simp [Nat.lt_of_lt_of_le hb hN]
    refine ⟨rfl, rfl, rfl, by simp, fun b hb => ?_, fun b o hb _ => ?_, fun b o hb => ?_, fun b hb _ _ => hlt b hb⟩
    · unfold World.shape?; simp only [hlt b hb]
    · unfold World.cell?; simp only [hlt b hb]
    · unfold frz; simp only [hlt b hb]
  | shape r k ih => exact ih _ hN h
  | freeze a n k ih =>
    obtain ⟨h1, h2⟩ := h
    obtain ⟨x, w', hr, hq, hc, he⟩ := ih (w := w.freeze a n) (by unfold World.freeze; split <;> simpa using hN) h2
    refine ⟨x, w', hr, hq, Chg.trans ?_ hc, he⟩
    have hlt : ∀ b, b < N → (w.freeze a n).heap[b]? = w.heap[b]? := fun b hb => by
      unfold World.freeze
      split
      · rfl
      · simp only [Array.getElem?_modify]
        rw [if_neg (by omega)]
    have e1 : (w.freeze a n).tape = w.tape ∧ (w.freeze a n).os = w.os ∧ (w.freeze a n).output = w.output ∧ w.heap.size ≤ (w.freeze a n).heap.size := by
      unfold World.freeze; split <;> simp
    refine ⟨e1.1, e1.2.1, e1.2.2.1, e1.2.2.2, fun b hb => ?_, fun b o hb _ => ?_, fun b o hb => ?_, fun b hb _ _ => hlt b hb⟩
    · unfold World.shape?; simp only [hlt b hb]
    · unfold World.cell?; simp only [hlt b hb]
    · unfold frz; simp only [hlt b hb]
  | frozen a k ih => exact ih _ hN h
  | getObj r k ih =>
    obtain ⟨o, h1, h2, h3, h4, h5⟩ := h
    obtain ⟨x, w', hr, hq, hc, he⟩ := ih o hN h5
    have hrun : (Sem.getObj r k).run P w = (k o).run P w := by
      cases o <;> first | (simp only [Sem.run, h1]; done) | exact absurd rfl (h2 _ _ _)
    have hev' : ∀ es, (Sem.getObj r k).events P w es = (k o).events P w (es.push ⟨.obj r, false, o.isChan⟩) := by
      intro es
      cases o <;> first | (simp only [Sem.events, Sem.runT, h1]; done) | exact absurd rfl (h2 _ _ _)
    refine ⟨x, w', by rw [hrun]; exact hr, hq, hc, fun es => ?_⟩
    obtain ⟨l, hl, hev⟩ := he (es.push ⟨.obj r, false, o.isChan⟩)
    refine ⟨⟨.obj r, false, o.isChan⟩ :: l, by rw [hev', hl]; simp, ?_⟩
    intro e hm
    rcases List.mem_cons.1 hm with rfl | hm
    · exact ⟨h4, h3⟩
    · exact hev e hm
  | setObj r o k ih =>
    obtain ⟨⟨o', h1, h1'⟩, h2, h3, h4, h5⟩ := h
    obtain ⟨x, w', hr, hq, hc, he⟩ := ih (w := { w with heap := w.heap.setIfInBounds r o }) (by simpa using hN) h5
    have hrun : (Sem.setObj r o k).run P w = k.run P { w with heap := w.heap.setIfInBounds r o } := by
      cases o' <;> first | (simp only [Sem.run, h1]; done) | exact absurd rfl (h1' _ _ _)
    have hev' : ∀ es, (Sem.setObj r o k).events P w es = k.events P { w with heap := w.heap.setIfInBounds r o } (es.push ⟨.obj r, true, o.isChan⟩) := by
      intro es
      cases o' <;> first | (simp only [Sem.events, Sem.runT, h1]; done) | exact absurd rfl (h1' _ _ _)
    have hrl : r < w.heap.size := by
      rcases Nat.lt_or_ge r w.heap.size with h | h
      · exact h
      · simp [Array.getElem?_eq_none h] at h1
    have hne : ∀ b, b ≠ r → (w.heap.setIfInBounds r o)[b]? = w.heap[b]? := fun b hb => Array.getElem?_setIfInBounds_ne (Ne.symm hb)
    have heq : (w.heap.setIfInBounds r o)[r]? = some o := by simp [hrl]
    refine ⟨x, w', by rw [hrun]; exact hr, hq, Chg.trans ?_ hc, fun es => ?_⟩
    · refine ⟨rfl, rfl, rfl, by simp, fun b hb => ?_, fun b i hb _ => ?_, fun b i hb => ?_, fun b hb ho _ => ?_⟩
      · unfold World.shape?
        by_cases hbr : b = r
        · subst hbr
          simp only [heq, h1]
          cases o <;> first | exact absurd rfl (h2 _ _ _) | (cases o' <;> first | exact absurd rfl (h1' _ _ _) | rfl)
        · simp only [hne b hbr]
      · unfold World.cell?
        by_cases hbr : b = r
        · subst hbr
          simp only [heq, h1]
          cases o <;> first | exact absurd rfl (h2 _ _ _) | (cases o' <;> first | exact absurd rfl (h1' _ _ _) | rfl)
        · simp only [hne b hbr]
      · unfold frz
        by_cases hbr : b = r
        · subst hbr
          simp only [heq, h1]
          cases o <;> first | exact absurd rfl (h2 _ _ _) | (cases o' <;> first | exact absurd rfl (h1' _ _ _) | rfl)
        · simp only [hne b hbr]
      · exact hne b (by rintro rfl; exact ho h4)
    · obtain ⟨l, hl, hev⟩ := he (es.push ⟨.obj r, true, o.isChan⟩)
      refine ⟨⟨.obj r, true, o.isChan⟩ :: l, by rw [hev', hl]; simp, ?_⟩
      intro e hm
      rcases List.mem_cons.1 hm with rfl | hm
      · exact ⟨h4, h3⟩
      · exact hev e hm
  | choose q k ih =>
    obtain ⟨x, w', hr, hq, hc, he⟩ := ih _ (w := if q.forced then w else { w with drawn := w.drawn + 1 }) (by split <;> exact hN) h
    by_cases hf : q.forced = true
    · simp only [hf, if_true] at hr hc he
      refine ⟨x, w', by simp only [Sem.run, hf, if_true]; exact hr, hq, hc, fun es => ?_⟩
      obtain ⟨l, hl, hev⟩ := he es
      exact ⟨l, by rw [← hl]; simp only [Sem.events, Sem.runT, hf, if_true], hev⟩
    · simp only [hf, Bool.false_eq_true, if_false] at hr hc he
      refine ⟨x, w', by simp only [Sem.run, hf, Bool.false_eq_true, if_false]; exact hr, hq, Chg.trans (w₁ := { w with drawn := w.drawn + 1 }) ⟨rfl, rfl, rfl, Nat.le_refl _, fun _ _ => rfl, fun _ _ _ _ => rfl, fun _ _ _ => rfl, fun _ _ _ _ => rfl⟩ hc, fun es => ?_⟩
      obtain ⟨l, hl, hev⟩ := he es
      exact ⟨l, by rw [← hl]; simp only [Sem.events, Sem.runT, hf, Bool.false_eq_true, if_false], hev⟩
  | sys c k ih => exact h.elim
  | program k ih => exact ih _ hN h
  | mark m k ih =>
    obtain ⟨h1, h2⟩ := h
    obtain ⟨x, w', hr, hq, hc, he⟩ := ih hN h2
    refine ⟨x, w', hr, hq, hc, fun es => ?_⟩
    obtain ⟨l, hl, hev⟩ := he (es.push ⟨.mark m, false, true⟩)
    refine ⟨⟨.mark m, false, true⟩ :: l, ?_, ?_⟩
    · have : (Sem.mark m k).events P w es = k.events P w (es.push ⟨.mark m, false, true⟩) := by simp only [Sem.events, Sem.runT]
      rw [this, hl]; simp
    · intro e hm
      rcases List.mem_cons.1 hm with rfl | hm
      · exact h1
      · exact hev e hm
  | halt h' => exact h.elim
end Go.AM
/-
  A WORLD THAT HOLDS WHAT AN ABSTRACT MEMORY HOLDS ('Sim'), and what that gives leave to touch ('permOf').
-/
set_option linter.unusedVariables false
set_option linter.unusedSimpArgs false
namespace Go.AM
open Go

def ERel (ρ : Ren) (e e' : MapEntry) : Prop := VRel ρ e.key e'.key ∧ VRel ρ e.val e'.val ∧ e'.born = e.born
structure Sim (ρ : Ren) (m : Mem) (w : World) : Prop where
  dom : ∀ b p, ρ b = some p → b < m.next
  cells : ∀ b p, ρ b = some p → (m.blk b).kind = 1 → p.sz = (m.blk b).sz ∧ (m.blk b).cs.length ≤ p.room ∧ ∃ e n, w.shape? p.c = some (e, n) ∧ p.d + p.room ≤ n
  vals : ∀ b p o v, ρ b = some p → m.cell b o = some v → ∃ v', w.cell? ⟨p.c, p.d + o, none⟩ = some v' ∧ VRel ρ v v'
  thaw : ∀ b p o, ρ b = some p → o < p.room → (m.blk b).kind = 1 → m.base ≤ b → w.frozen? ⟨p.c, p.d + o, none⟩ = false
  maps : ∀ b p, ρ b = some p → (m.blk b).kind = 2 → m.ownsObj b = true → ∃ es', w.heap[p.c]? = some (.map es' (m.blk b).clock) ∧ Rel2 (ERel ρ) (m.blk b).es.toList es'.toList
  iters : ∀ b p, ρ b = some p → (m.blk b).kind = 3 → m.ownsObj b = true → p.d = 0 ∧ w.heap[p.c]? = some (.stringIter (m.blk b).str (m.blk b).pos)
  sep : ∀ b b' p p', b ≠ b' → ρ b = some p → ρ b' = some p' → (m.blk b).kind ≠ 0 → (m.blk b').kind ≠ 0 → p.c = p'.c → (m.blk b).kind = 1 ∧ (m.blk b').kind = 1 ∧ (p.room = 0 ∨ p'.room = 0 ∨ p.d + p.room ≤ p'.d ∨ p'.d + p'.room ≤ p.d)
  inw : ∀ b p, ρ b = some p → p.c < w.heap.size
  vars : ∀ b p, ρ b = some p → (m.blk b).kind = 1 → (m.blk b).pos = 1 → p.d = 0

def permOf (ρ : Ren) (m : Mem) : Perm where
  rd c x := ∃ b p, ρ b = some p ∧ p.c = c ∧ p.d ≤ x ∧ x < p.d + p.room ∧ m.okR b (x - p.d)
  wr c x := ∃ b p, ρ b = some p ∧ p.c = c ∧ p.d ≤ x ∧ x < p.d + p.room ∧ m.okW b (x - p.d)
  ob c := ∃ b p, ρ b = some p ∧ p.c = c ∧ ((m.blk b).kind = 2 ∨ (m.blk b).kind = 3) ∧ m.ownsObj b = true
  deaf := m.deaf

theorem permOf_wr_rd {ρ : Ren} {m : Mem} {c x : Nat} (h : (permOf ρ m).wr c x) : (permOf ρ m).rd c x := by
  obtain ⟨b, p, h1, h2, h3, h4, h5⟩ := h
  exact ⟨b, p, h1, h2, h3, h4, h5.1⟩

/-- What others may have done meanwhile. -/
structure Keeps (R : Perm) (w w₁ : World) : Prop where
  tape : w₁.tape = w.tape
  os : w₁.os = w.os
  output : w₁.output = w.output
  size : w.heap.size ≤ w₁.heap.size
  shape : ∀ b, b < w.heap.size → w₁.shape? b = w.shape? b
  cell : ∀ b o, R.rd b o → w₁.cell? ⟨b, o, none⟩ = w.cell? ⟨b, o, none⟩
  froz : ∀ b o, b < w.heap.size → frz w₁ ⟨b, o, none⟩ = frz w ⟨b, o, none⟩
  obj : ∀ b, R.ob b → w₁.heap[b]? = w.heap[b]?
theorem Keeps.refl (R : Perm) (w : World) : Keeps R w w := ⟨rfl, rfl, rfl, Nat.le_refl _, fun _ _ => rfl, fun _ _ _ => rfl, fun _ _ _ => rfl, fun _ _ => rfl⟩
theorem Keeps.trans {R : Perm} {w w₁ w₂ : World} (h : Keeps R w w₁) (k : Keeps R w₁ w₂) : Keeps R w w₂ :=
  ⟨k.tape.trans h.tape, k.os.trans h.os, k.output.trans h.output, Nat.le_trans h.size k.size, fun b hb => (k.shape b (Nat.lt_of_lt_of_le hb h.size)).trans (h.shape b hb),
    fun b o x => (k.cell b o x).trans (h.cell b o x), fun b o x => (k.froz b o (Nat.lt_of_lt_of_le x h.size)).trans (h.froz b o x), fun b x => (k.obj b x).trans (h.obj b x)⟩
theorem Keeps.at (R : Perm) (w : World) (d : Nat) : Keeps R w { w with drawn := d } := ⟨rfl, rfl, rfl, Nat.le_refl _, fun _ _ => rfl, fun _ _ _ => rfl, fun _ _ _ => rfl, fun _ _ => rfl⟩

section
variable {ρ : Ren} {m : Mem} {w w₁ : World}
theorem room_of_cell (h : Sim ρ m w) {b : Nat} {p : Pl} (hp : ρ b = some p) {o : Nat} {v : Value} (hc : m.cell b o = some v) : o < p.room := by
  have hk := (Mem.okR_of_cell hc).1
  obtain ⟨_, hl, _⟩ := h.cells b p hp hk
  unfold Mem.cell at hc
  split at hc
  · rcases Nat.lt_or_ge o (m.blk b).cs.length with hlt | hge
    · omega
    · simp [List.getElem?_eq_none hge] at hc
  · cases hc
theorem rd_of_cell (h : Sim ρ m w) {b : Nat} {p : Pl} (hp : ρ b = some p) {o : Nat} {v : Value} (hc : m.cell b o = some v) : (permOf ρ m).rd p.c (p.d + o) :=
  ⟨b, p, hp, rfl, by omega, by have := room_of_cell h hp hc; omega, by rw [Nat.add_sub_cancel_left]; exact Mem.okR_of_cell hc⟩
theorem wr_of_okW {b : Nat} {p : Pl} (hp : ρ b = some p) {o : Nat} (ho : o < p.room) (hw : m.okW b o) : (permOf ρ m).wr p.c (p.d + o) :=
  ⟨b, p, hp, rfl, by omega, by omega, by rw [Nat.add_sub_cancel_left]; exact hw⟩
/-- The others' doing leaves it standing. -/
theorem Sim.keeps (h : Sim ρ m w) (k : Keeps (permOf ρ m) w w₁) : Sim ρ m w₁ where
  dom := h.dom
  cells b p hp hk := by
    obtain ⟨h1, h2, e, n, h3, h4⟩ := h.cells b p hp hk
    exact ⟨h1, h2, e, n, by rw [k.shape _ (h.inw b p hp)]; exact h3, h4⟩
  vals b p o v hp hc := by
    obtain ⟨v', h1, h2⟩ := h.vals b p o v hp hc
    exact ⟨v', by rw [k.cell _ _ (rd_of_cell h hp hc)]; exact h1, h2⟩
  thaw b p o hp ho hk hb := by rw [frz_froz (k.froz _ _ (h.inw b p hp))]; exact h.thaw b p o hp ho hk hb
  maps b p hp hk ho := by
    obtain ⟨es', h1, h2⟩ := h.maps b p hp hk ho
    exact ⟨es', by rw [k.obj _ ⟨b, p, hp, rfl, .inl hk, ho⟩]; exact h1, h2⟩
  iters b p hp hk ho := by
    obtain ⟨h1, h2⟩ := h.iters b p hp hk ho
    exact ⟨h1, by rw [k.obj _ ⟨b, p, hp, rfl, .inr hk, ho⟩]; exact h2⟩
  sep := h.sep
  inw b p hp := Nat.lt_of_lt_of_le (h.inw b p hp) k.size
  vars := h.vars

/-- The new permissions lie within the old ones and what is new. -/
structure Within (R R' : Perm) (N : Nat) : Prop where
  rd : ∀ b o, R'.rd b o → R.rd b o ∨ N ≤ b
  wr : ∀ b o, R'.wr b o → R.wr b o ∨ N ≤ b
  ob : ∀ b, R'.ob b → R.ob b ∨ N ≤ b
theorem Within.refl (R : Perm) (N : Nat) : Within R R N := ⟨fun _ _ => .inl, fun _ _ => .inl, fun _ => .inl⟩

/-! ### loads -/
theorem Sim.load1 (h : Sim ρ m w) {b : Nat} {p : Pl} (hp : ρ b = some p) {o : Nat} {vs : List Value} {n : Nat} (hl : m.loads b o n = some vs) {i : Nat} (hi : i < n) :
    ∃ v v', vs[i]? = some v ∧ VRel ρ v v' ∧ w.cell? ⟨p.c, p.d + (o + i), none⟩ = some v' ∧ (permOf ρ m).rd p.c (p.d + (o + i)) := by
  obtain ⟨_, _, h3⟩ := Mem.loads_spec hl
  obtain ⟨v, hv, hc⟩ := h3 i hi
  obtain ⟨v', h1, h2⟩ := h.vals b p _ v hp hc
  exact ⟨v, v', hv, h2, h1, rd_of_cell h hp hc⟩

theorem addr_add (c d i : Nat) : (⟨c, d, none⟩ : Addr).add i = ⟨c, d + i, none⟩ := by
  unfold Addr.add
  split
  · rename_i h; subst h; rfl
  · rfl
theorem okS_load {P : Program} {R : Perm} {N : Nat} {a : Addr} {md : Mode} {Q : Value → World → Prop} {v : Value} (h : w.cell? a = some v) (hr : R.rd a.block a.off) (hq : Q v w) : okS P R N (Go.load a md) Q w := ⟨v, h, hr, hq⟩
theorem okS_loadCellsFrom {P : Program} {R : Perm} {N : Nat} {a : Addr} {Q : Array Value → World → Prop} : ∀ (n i : Nat) (acc : Array Value) (vs : List Value),
    (∀ j : Nat, j < n → ∃ v, vs[j]? = some v ∧ w.cell? (a.add (i + j)) = some v ∧ R.rd (a.add (i + j)).block (a.add (i + j)).off) → vs.length = n → Q (acc ++ vs.toArray) w → okS P R N (loadCellsFrom a i n acc) Q w
  | 0, i, acc, vs, _, hl, hq => by
    have : vs = [] := List.eq_nil_of_length_eq_zero hl
    subst this
    show Q acc w
    simpa using hq
  | n + 1, i, acc, vs, h, hl, hq => by
    obtain ⟨v, hv, hc, hr⟩ := h 0 (by omega)
    cases vs with
    | nil => simp at hl
    | cons x vs =>
      simp at hv
      subst hv
      simp only [loadCellsFrom]
      rw [okS_bind]
      refine okS_load (by simpa using hc) (by simpa using hr) ?_
      refine okS_loadCellsFrom n (i + 1) (acc.push x) vs (fun j hj => ?_) (by simpa using hl) (by simpa using hq)
      obtain ⟨u, h1, h2, h3⟩ := h (j + 1) (by omega)
      have e : i + 1 + j = i + (j + 1) := by omega
      rw [e]
      exact ⟨u, by simpa using h1, h2, h3⟩
/-- A row of cells is read. -/
theorem Sim.okS_loadCells (h : Sim ρ m w) {P : Program} {N : Nat} {b : Nat} {p : Pl} (hp : ρ b = some p) {o n : Nat} {vs : List Value} (hl : m.loads b o n = some vs) {Q : Array Value → World → Prop}
    (hq : ∀ vs' : List Value, Rel2 (VRel ρ) vs vs' → Q vs'.toArray w) : okS P (permOf ρ m) N (loadCells ⟨p.c, p.d + o, none⟩ n) Q w := by
  obtain ⟨_, hlen, _⟩ := Mem.loads_spec hl
  have hex : ∃ vs' : List Value, vs'.length = n ∧ ∀ i : Nat, i < n → ∃ v v', vs[i]? = some v ∧ vs'[i]? = some v' ∧ VRel ρ v v' ∧ w.cell? ⟨p.c, p.d + (o + i), none⟩ = some v' ∧ (permOf ρ m).rd p.c (p.d + (o + i)) := by
    refine ⟨(List.range n).map fun i => (w.cell? ⟨p.c, p.d + (o + i), none⟩).getD undef, by simp, fun i hi => ?_⟩
    obtain ⟨v, v', h1, h2, h3, h4⟩ := h.load1 hp hl hi
    exact ⟨v, v', h1, by simp [hi, h3], h2, h3, h4⟩
  obtain ⟨vs', hl', hv⟩ := hex
  unfold loadCells
  refine okS_loadCellsFrom n 0 #[] vs' (fun j hj => ?_) hl' ?_
  · obtain ⟨v, v', _, h2, _, h4, h5⟩ := hv j hj
    rw [Nat.zero_add, addr_add]
    exact ⟨v', h2, by rw [Nat.add_assoc]; exact h4, by simpa [Nat.add_assoc] using h5⟩
  · simp only [Array.empty_append]
    refine hq vs' (Rel2.of_get (by rw [hlen, hl']) fun i a b ha hb => ?_)
    have hi : i < n := by
      rcases Nat.lt_or_ge i n with h | h
      · exact h
      · rw [List.getElem?_eq_none (by omega)] at ha; cases ha
    obtain ⟨v, v', h1, h2, h3, _⟩ := hv i hi
    rw [h1] at ha; rw [h2] at hb
    cases ha; cases hb
    exact h3

/-! ### stores -/
/-- From w to w' the cells d, d + 1 .. of block c have been written. -/
structure Wrote (w w' : World) (c d : Nat) (vs : List Value) : Prop where
  tape : w'.tape = w.tape
  drawn : w'.drawn = w.drawn
  os : w'.os = w.os
  output : w'.output = w.output
  size : w'.heap.size = w.heap.size
  others : ∀ b, b ≠ c → w'.heap[b]? = w.heap[b]?
  shape : ∀ b, w'.shape? b = w.shape? b
  cell : ∀ x, w'.cell? ⟨c, x, none⟩ = if d ≤ x ∧ x < d + vs.length then vs[x - d]? else w.cell? ⟨c, x, none⟩
  froz : ∀ b x, w'.frozen? ⟨b, x, none⟩ = w.frozen? ⟨b, x, none⟩
theorem Wrote.cell_other {w w' : World} {c d : Nat} {vs : List Value} (h : Wrote w w' c d vs) {b : Nat} (hb : b ≠ c) (x : Nat) : w'.cell? ⟨b, x, none⟩ = w.cell? ⟨b, x, none⟩ := by
  unfold World.cell?; simp only [h.others b hb]
theorem wrote_nil (w : World) (c d : Nat) : Wrote w w c d [] := ⟨rfl, rfl, rfl, rfl, rfl, fun _ _ => rfl, fun _ => rfl, fun x => by simp; omega, fun _ _ => rfl⟩
theorem wrote_cons {w w' : World} {c d : Nat} {v : Value} {vs : List Value} (hc : (w.cell? ⟨c, d, none⟩).isSome = true) (h : Wrote (w.setCell ⟨c, d, none⟩ v) w' c (d + 1) vs) : Wrote w w' c d (v :: vs) where
  tape := h.tape
  drawn := h.drawn
  os := h.os
  output := h.output
  size := by rw [h.size]; simp [World.setCell]
  others b hb := by
    rw [h.others b hb]
    unfold World.setCell
    simp only [Array.getElem?_modify, Ne.symm hb, if_false]
  shape b := by rw [h.shape, shape_setCell]
  cell x := by
    rw [h.cell, cell_setCell _ _ _ _ _ rfl]
    by_cases h1 : d + 1 ≤ x ∧ x < d + 1 + vs.length
    · rw [if_pos h1, if_pos ⟨by omega, by simp; omega⟩]
      rw [show x - d = (x - (d + 1)) + 1 by omega]; simp
    · rw [if_neg h1]
      by_cases h2 : d = x
      · subst h2
        rw [if_pos ⟨rfl, rfl, hc⟩, if_pos ⟨by omega, by simp⟩]
        simp
      · rw [if_neg (by rintro ⟨_, h3, _⟩; exact h2 h3), if_neg (by simp; omega)]
  froz b x := by rw [h.froz, frz_froz (froz_setCell ..)]
theorem okS_storeCells {P : Program} {R : Perm} {N : Nat} {c d : Nat} {Q : Unit → World → Prop} : ∀ (vs : List Value) (i : Nat) (w : World), (∀ v ∈ vs, v.oneCell' = true) →
    (∀ j : Nat, j < vs.length → (w.cell? ⟨c, d + i + j, none⟩).isSome = true ∧ w.frozen? ⟨c, d + i + j, none⟩ = false ∧ R.wr c (d + i + j)) → (∀ w', Wrote w w' c (d + i) vs → Q () w') → okS P R N (storeCells ⟨c, d, none⟩ vs i) Q w
  | [], i, w, _, _, hq => hq w (wrote_nil ..)
  | v :: vs, i, w, h1, h, hq => by
    simp only [storeCells]
    rw [okS_bind]
    have h0 := h 0 (by simp)
    simp only [Nat.add_zero] at h0
    obtain ⟨u, hu⟩ := Option.isSome_iff_exists.1 h0.1
    show okS P R N (.store .plain _ v (.pure ())) _ w
    rw [addr_add]
    refine ⟨h1 v (by simp), ⟨u, hu⟩, h0.2.1, h0.2.2, ?_⟩
    refine okS_storeCells vs (i + 1) _ (fun x hx => h1 x (by simp [hx])) (fun j hj => ?_) (fun w' hw' => hq w' ?_)
    · obtain ⟨g1, g2, g3⟩ := h (j + 1) (by simp; omega)
      have e : d + (i + 1) + j = d + i + (j + 1) := by omega
      rw [e]
      refine ⟨?_, by rw [frz_froz (froz_setCell ..)]; exact g2, g3⟩
      rw [cell_setCell _ _ _ _ _ rfl, if_neg (by rintro ⟨_, h3, _⟩; simp at h3)]
      exact g1
    · rw [show d + (i + 1) = d + i + 1 by omega] at hw'
      exact wrote_cons h0.1 hw'
/-- A row of live cells of a block is written: the world then holds what the memory then holds. -/
theorem Sim.wrote (h : Sim ρ m w) {b : Nat} {p : Pl} (hp : ρ b = some p) {o : Nat} {vs vs' : List Value} (hv : Rel2 (VRel ρ) vs vs') {cs : List (Option Value)} (hk : (m.blk b).kind = 1) (hput : putLive (m.blk b).cs o vs = some cs)
    {w' : World} (hw : Wrote w w' p.c (p.d + o) vs') : Sim ρ (m.setBlk b { m.blk b with cs := cs }) w' := by
  obtain ⟨hl, hg, hlive⟩ := putLive_spec hput
  have hlen := hv.length
  have hsame : ∀ b', (m.setBlk b { m.blk b with cs := cs }).blk b' = if b = b' then { m.blk b with cs := cs, stamp := m.tick } else m.blk b' := fun b' => Mem.blk_setBlk ..
  have hkind : ∀ b', ((m.setBlk b { m.blk b with cs := cs }).blk b').kind = (m.blk b').kind := fun b' => by rw [hsame]; split <;> simp_all
  obtain ⟨hsz, hroom, e, n, hsh, hn⟩ := h.cells b p hp hk
  refine ⟨h.dom, fun b' p' hp' hk' => ?_, fun b' p' o' v hp' hc => ?_, fun b' p' o' hp' ho' hk' hb' => ?_, fun b' p' hp' hk' ho' => ?_, fun b' p' hp' hk' ho' => ?_, fun b₁ b₂ p₁ p₂ hne h₁ h₂ k₁ k₂ hc => ?_, fun b' p' hp' => by rw [hw.size]; exact h.inw b' p' hp', fun b' p' hp' hk' hps => ?_⟩
  · rw [hkind] at hk'
    obtain ⟨g1, g2, e', n', g3, g4⟩ := h.cells b' p' hp' hk'
    refine ⟨?_, ?_, e', n', by rw [hw.shape]; exact g3, g4⟩
    · rw [hsame]; split
      · rename_i hb; subst hb; exact g1
      · exact g1
    · rw [hsame]; split
      · rename_i hb; subst hb; simpa [hl] using g2
      · exact g2
  · by_cases hb : b = b'
    · subst hb
      obtain rfl : p = p' := by rw [hp] at hp'; exact Option.some.inj hp'
      unfold Mem.cell at hc
      rw [hsame] at hc
      simp only [if_true, Mem.setBlk_hid] at hc
      split at hc
      · rename_i hh
        rw [hg] at hc
        by_cases hin : o ≤ o' ∧ o' < o + vs.length
        · rw [if_pos hin] at hc
          obtain ⟨x, hx⟩ : ∃ x, vs[o' - o]? = some x := ⟨_, List.getElem?_eq_getElem (by omega)⟩
          simp [hx] at hc
          subst hc
          obtain ⟨y, hy, hxy⟩ := hv.get hx
          refine ⟨y, ?_, hxy⟩
          rw [hw.cell, if_pos ⟨by omega, by omega⟩, show p.d + o' - (p.d + o) = o' - o by omega]
          exact hy
        · rw [if_neg hin] at hc
          have hc' : m.cell b o' = some v := by unfold Mem.cell; rw [if_pos hh]; exact hc
          obtain ⟨y, hy, hxy⟩ := h.vals b p o' v hp hc'
          refine ⟨y, ?_, hxy⟩
          rw [hw.cell, if_neg (by omega)]
          exact hy
      · cases hc
    · have hc' : m.cell b' o' = some v := by
        unfold Mem.cell at hc ⊢
        rw [hsame, if_neg hb] at hc
        exact hc
      obtain ⟨y, hy, hxy⟩ := h.vals b' p' o' v hp' hc'
      refine ⟨y, ?_, hxy⟩
      have hk' := (Mem.okR_of_cell hc').1
      have hr' := room_of_cell h hp' hc'
      by_cases hcc : p'.c = p.c
      · have := (h.sep b b' p p' hb hp hp' (by omega) (by omega) hcc.symm).2.2
        have hvl : o + vs.length ≤ (m.blk b).cs.length ∨ vs.length = 0 := by
          rcases Nat.eq_zero_or_pos vs.length with h0 | h0
          · exact .inr h0
          · obtain ⟨u, hu⟩ := hlive (vs.length - 1) (by omega)
            rcases Nat.lt_or_ge (o + (vs.length - 1)) (m.blk b).cs.length with h1 | h1
            · left; omega
            · rw [List.getElem?_eq_none h1] at hu; cases hu
        rw [hcc, hw.cell, if_neg (by omega), ← hcc]
        exact hy
      · rw [hw.cell_other hcc]; exact hy
  · rw [hw.froz]
    rw [hkind] at hk'
    exact h.thaw b' p' o' hp' ho' hk' hb'
  · have hb : b ≠ b' := by rintro rfl; rw [hkind] at hk'; omega
    have e1 : (m.setBlk b { m.blk b with cs := cs }).blk b' = m.blk b' := by rw [hsame, if_neg hb]
    rw [hkind] at hk'
    obtain ⟨es', g1, g2⟩ := h.maps b' p' hp' hk' ho'
    have hne : p'.c ≠ p.c := fun hcc => by have := (h.sep b b' p p' hb hp hp' (by omega) (by omega) hcc.symm).2.1; omega
    exact ⟨es', by rw [hw.others _ hne, e1]; exact g1, by rw [e1]; exact g2⟩
  · have hb : b ≠ b' := by rintro rfl; rw [hkind] at hk'; omega
    have e1 : (m.setBlk b { m.blk b with cs := cs }).blk b' = m.blk b' := by rw [hsame, if_neg hb]
    rw [hkind] at hk'
    obtain ⟨g1, g2⟩ := h.iters b' p' hp' hk' ho'
    have hne : p'.c ≠ p.c := fun hcc => by have := (h.sep b b' p p' hb hp hp' (by omega) (by omega) hcc.symm).2.1; omega
    exact ⟨g1, by rw [hw.others _ hne, e1]; exact g2⟩
  · rw [hkind] at k₁ k₂ ⊢
    rw [hkind]
    exact h.sep b₁ b₂ p₁ p₂ hne h₁ h₂ k₁ k₂ hc
  · rw [hkind] at hk'
    refine h.vars b' p' hp' hk' ?_
    rw [hsame] at hps
    split at hps
    · rename_i e; subst e; exact hps
    · exact hps
/-- Writing live cells gives no new leave. -/
theorem permOf_setBlk {b : Nat} {o : Nat} {vs : List Value} {cs : List (Option Value)} (hk : (m.blk b).kind = 1) (hput : putLive (m.blk b).cs o vs = some cs) (N : Nat) : Within (permOf ρ m) (permOf ρ (m.setBlk b { m.blk b with cs := cs })) N := by
  obtain ⟨hl, hg, hlive⟩ := putLive_spec hput
  have hsame : ∀ b', (m.setBlk b { m.blk b with cs := cs }).blk b' = if b = b' then { m.blk b with cs := cs, stamp := m.tick } else m.blk b' := fun b' => Mem.blk_setBlk ..
  have hkind : ∀ b', ((m.setBlk b { m.blk b with cs := cs }).blk b').kind = (m.blk b').kind := fun b' => by rw [hsame]; split <;> simp_all
  have hR : ∀ b' o', (m.setBlk b { m.blk b with cs := cs }).okR b' o' → m.okR b' o' := by
    rintro b' o' ⟨g1, g2, g3⟩
    refine ⟨by rw [← hkind b']; exact g1, g2, fun hlt => ?_⟩
    by_cases hb : b = b'
    · subst hb
      have := g3 (by rw [hsame, if_pos rfl]; simpa [hl] using hlt)
      rw [hsame, if_pos rfl] at this
      obtain ⟨x, hx⟩ := this
      rw [hg] at hx
      split at hx
      · rename_i hin
        obtain ⟨u, hu⟩ := hlive (o' - o) (by omega)
        exact ⟨u, by rw [show o' = o + (o' - o) by omega]; exact hu⟩
      · exact ⟨x, hx⟩
    · have := g3 (by rw [hsame, if_neg hb]; exact hlt)
      rw [hsame, if_neg hb] at this
      exact this
  refine ⟨?_, ?_, ?_⟩
  · rintro c x ⟨b', p, h1, h2, h3, h4, h5⟩
    exact .inl ⟨b', p, h1, h2, h3, h4, hR _ _ h5⟩
  · rintro c x ⟨b', p, h1, h2, h3, h4, h5, h6⟩
    exact .inl ⟨b', p, h1, h2, h3, h4, hR _ _ h5, h6⟩
  · rintro c ⟨b', p, h1, h2, h3, h4⟩
    exact .inl ⟨b', p, h1, h2, by rwa [hkind] at h3, h4⟩
end
end Go.AM
/-
  NEW BLOCKS; blocks that are taken away.
-/
set_option linter.unusedVariables false
set_option linter.unusedSimpArgs false
namespace Go.AM
open Go

def Ren.put (ρ : Ren) (b : Nat) (p : Pl) : Ren := fun x => if x = b then some p else ρ x
theorem Ren.le_put {ρ : Ren} {b : Nat} (h : ρ b = none) (p : Pl) : ρ.le (ρ.put b p) := by
  intro x q hq
  unfold Ren.put
  rw [if_neg (by rintro rfl; rw [h] at hq; cases hq)]
  exact hq
theorem Ren.put_same (ρ : Ren) (b : Nat) (p : Pl) : ρ.put b p b = some p := by simp [Ren.put]
theorem Ren.put_ne (ρ : Ren) {b x : Nat} (p : Pl) (h : x ≠ b) : ρ.put b p x = ρ x := by simp [Ren.put, h]

section
variable {ρ : Ren} {m : Mem} {w : World}
/-- Memory that differs at blocks that lie nowhere holds as well. -/
theorem Sim.elsewhere (h : Sim ρ m w) {m' : Mem} (hn : m.next ≤ m'.next) (hb : ∀ b p, ρ b = some p → (m'.blk b) = (m.blk b)) (hh : m'.hid = m.hid) (hbs : m'.base = m.base) (hhm : m'.home = m.home) : Sim ρ m' w := by
  have hc : ∀ b p o, ρ b = some p → m'.cell b o = m.cell b o := fun b p o hp => by unfold Mem.cell; rw [hb b p hp, hh]
  have hO : ∀ b, m'.ownsObj b = m.ownsObj b := fun b => by unfold Mem.ownsObj; rw [hh, hhm]
  refine ⟨fun b p hp => Nat.lt_of_lt_of_le (h.dom b p hp) hn, fun b p hp => ?_, fun b p o v hp => ?_, fun b p o hp hlt hk hbb => h.thaw b p o hp hlt (by rwa [hb b p hp] at hk) (by rwa [hbs] at hbb), fun b p hp => ?_, fun b p hp => ?_, fun b b' p p' hne hp hp' => ?_, h.inw, fun b p hp => by rw [hb b p hp]; exact h.vars b p hp⟩
  · rw [hb b p hp]; exact h.cells b p hp
  · rw [hc b p o hp]; exact h.vals b p o v hp
  · rw [hb b p hp, hO]; exact h.maps b p hp
  · rw [hb b p hp, hO]; exact h.iters b p hp
  · rw [hb b p hp, hb b' p' hp']; exact h.sep b b' p p' hne hp hp'
theorem within_elsewhere {m' : Mem} (hb : ∀ b p, ρ b = some p → (m'.blk b) = (m.blk b)) (hh : m'.hid = m.hid) (hhm : m'.home = m.home) (hf : m'.floor = m.floor) (ho : m'.opn = m.opn) (N : Nat) : Within (permOf ρ m) (permOf ρ m') N := by
  have hR : ∀ b p o, ρ b = some p → m'.okR b o → m.okR b o := fun b p o hp => by unfold Mem.okR; rw [hb b p hp, hh]; exact id
  have hW : ∀ b p o, ρ b = some p → m'.okW b o → m.okW b o := fun b p o hp x => ⟨hR b p o hp x.1, by have := x.2; rwa [hf, ho] at this⟩
  have hO : ∀ b, m'.ownsObj b = m.ownsObj b := fun b => by unfold Mem.ownsObj; rw [hh, hhm]
  refine ⟨?_, ?_, ?_⟩
  · rintro c x ⟨b, p, h1, h2, h3, h4, h5⟩; exact .inl ⟨b, p, h1, h2, h3, h4, hR b p _ h1 h5⟩
  · rintro c x ⟨b, p, h1, h2, h3, h4, h5⟩; exact .inl ⟨b, p, h1, h2, h3, h4, hW b p _ h1 h5⟩
  · rintro c ⟨b, p, h1, h2, h3, h4⟩; exact .inl ⟨b, p, h1, h2, by rwa [hb b p h1] at h3, by rwa [hO] at h4⟩
theorem none_next (h : Sim ρ m w) : ρ m.next = none := by
  cases hp : ρ m.next with
  | none => rfl
  | some p => exact absurd (h.dom _ _ hp) (by omega)
theorem alloc_elsewhere (h : Sim ρ m w) (k : Blk) : ∀ b p, ρ b = some p → ((m.alloc k).blk b) = (m.blk b) := by
  intro b p hp
  rw [Mem.blk_alloc, if_neg]
  rintro rfl
  rw [none_next h] at hp; cases hp
theorem Sim.bump (h : Sim ρ m w) (k : Blk) : Sim ρ (m.alloc k) w := h.elsewhere (by simp) (alloc_elsewhere h k) rfl rfl rfl

/-- A block of the memory that lies nowhere yet is laid: a new block of the world. -/
theorem Sim.lay (h : Sim ρ m w) {b : Nat} (hb : ρ b = none) (hlt : b < m.next) {w' : World} {o : Obj} (hheap : w'.heap = w.heap.push o) {p : Pl} (hpc : p.c = w.heap.size)
    (hcells : (m.blk b).kind = 1 → p.d = 0 ∧ p.sz = (m.blk b).sz ∧ (m.blk b).cs.length ≤ p.room ∧ ∃ C e fr, o = .cells C e fr ∧ p.room ≤ C.size ∧ (∀ x, x < p.room → ¬ (fr.1 ≤ x ∧ x < fr.2)) ∧
      ∀ (i : Nat) v, (m.blk b).cs[i]? = some (some v) → ∃ v', C[i]? = some v' ∧ VRel ρ v v')
    (hmap : (m.blk b).kind = 2 → ∃ es', o = .map es' (m.blk b).clock ∧ Rel2 (ERel ρ) (m.blk b).es.toList es'.toList)
    (hiter : (m.blk b).kind = 3 → p.d = 0 ∧ o = .stringIter (m.blk b).str (m.blk b).pos) : Sim (ρ.put b p) m w' := by
  have hle := Ren.le_put hb p
  have hold : ∀ c, c < w.heap.size → w'.heap[c]? = w.heap[c]? := fun c hc => by rw [hheap, Array.getElem?_push_lt hc]; simp [hc]
  have hnew : w'.heap[w.heap.size]? = some o := by rw [hheap]; simp
  have hcell : ∀ c x, c < w.heap.size → w'.cell? ⟨c, x, none⟩ = w.cell? ⟨c, x, none⟩ := fun c x hc => by unfold World.cell?; simp only [hold c hc]
  have hsh : ∀ c, c < w.heap.size → w'.shape? c = w.shape? c := fun c hc => by unfold World.shape?; simp only [hold c hc]
  have hfr : ∀ c x, c < w.heap.size → w'.frozen? ⟨c, x, none⟩ = w.frozen? ⟨c, x, none⟩ := fun c x hc => by unfold World.frozen?; simp only [hold c hc]
  have hcase : ∀ b' p', ρ.put b p b' = some p' → (b' = b ∧ p' = p) ∨ (b' ≠ b ∧ ρ b' = some p') := by
    intro b' p' hp'
    unfold Ren.put at hp'
    split at hp'
    · rename_i e; exact .inl ⟨e, (Option.some.inj hp').symm⟩
    · rename_i e; exact .inr ⟨e, hp'⟩
  refine ⟨fun b' p' hp' => ?_, fun b' p' hp' hk => ?_, fun b' p' x v hp' hc => ?_, fun b' p' x hp' hx hk hbb => ?_, fun b' p' hp' hk ho => ?_, fun b' p' hp' hk ho => ?_, fun b₁ b₂ p₁ p₂ hne h₁ h₂ k₁ k₂ hc => ?_, fun b' p' hp' => ?_, fun b' p' hp' hk hps => ?_⟩
  · rcases hcase _ _ hp' with ⟨rfl, rfl⟩ | ⟨_, hq⟩
    · exact hlt
    · exact h.dom _ _ hq
  · rcases hcase _ _ hp' with ⟨rfl, rfl⟩ | ⟨_, hq⟩
    · obtain ⟨h0, h1, h2, C, e, fr, rfl, h3, _⟩ := hcells hk
      exact ⟨h1, h2, e, C.size, by unfold World.shape?; rw [hpc, hnew], by omega⟩
    · obtain ⟨h1, h2, e, n, h3, h4⟩ := h.cells _ _ hq hk
      exact ⟨h1, h2, e, n, by rw [hsh _ (h.inw _ _ hq)]; exact h3, h4⟩
  · rcases hcase _ _ hp' with ⟨rfl, rfl⟩ | ⟨_, hq⟩
    · have hk := (Mem.okR_of_cell hc).1
      obtain ⟨h0, _, _, C, e, fr, rfl, _, _, h5⟩ := hcells hk
      have hx : (m.blk b').cs[x]? = some (some v) := by
        unfold Mem.cell at hc
        split at hc
        · cases hg : (m.blk b').cs[x]? with
          | none => simp [hg] at hc
          | some u => cases u <;> simp [hg] at hc; subst hc; rfl
        · cases hc
      obtain ⟨v', hv', hr⟩ := h5 x v hx
      exact ⟨v', by unfold World.cell?; simp only [hpc, hnew, h0, Nat.zero_add]; simpa using hv', hr.ren hle⟩
    · obtain ⟨v', h1, h2⟩ := h.vals _ _ _ _ hq hc
      exact ⟨v', by rw [hcell _ _ (h.inw _ _ hq)]; exact h1, h2.ren hle⟩
  · rcases hcase _ _ hp' with ⟨rfl, rfl⟩ | ⟨_, hq⟩
    · obtain ⟨h0, _, _, C, e, fr, rfl, h3, h4, _⟩ := hcells hk
      have := h4 x hx
      unfold World.frozen?
      simp only [hpc, hnew, h0, Nat.zero_add]
      simpa using this
    · rw [hfr _ _ (h.inw _ _ hq)]; exact h.thaw _ _ _ hq hx hk hbb
  · rcases hcase _ _ hp' with ⟨rfl, rfl⟩ | ⟨_, hq⟩
    · obtain ⟨es', rfl, h1⟩ := hmap hk
      exact ⟨es', by rw [hpc, hnew], h1.mono fun _ _ x => ⟨x.1.ren hle, x.2.1.ren hle, x.2.2⟩⟩
    · obtain ⟨es', h1, h2⟩ := h.maps _ _ hq hk ho
      exact ⟨es', by rw [hold _ (h.inw _ _ hq)]; exact h1, h2.mono fun _ _ x => ⟨x.1.ren hle, x.2.1.ren hle, x.2.2⟩⟩
  · rcases hcase _ _ hp' with ⟨rfl, rfl⟩ | ⟨_, hq⟩
    · obtain ⟨h0, rfl⟩ := hiter hk
      exact ⟨h0, by rw [hpc, hnew]⟩
    · obtain ⟨h1, h2⟩ := h.iters _ _ hq hk ho
      exact ⟨h1, by rw [hold _ (h.inw _ _ hq)]; exact h2⟩
  · rcases hcase _ _ h₁ with ⟨rfl, rfl⟩ | ⟨e₁, q₁⟩ <;> rcases hcase _ _ h₂ with ⟨rfl, rfl⟩ | ⟨e₂, q₂⟩
    · exact absurd rfl hne
    · have := h.inw _ _ q₂; omega
    · have := h.inw _ _ q₁; omega
    · exact h.sep _ _ _ _ hne q₁ q₂ k₁ k₂ hc
  · rcases hcase _ _ hp' with ⟨rfl, rfl⟩ | ⟨_, hq⟩
    · rw [hpc, hheap]; simp
    · have := h.inw _ _ hq; rw [hheap]; simp; omega
  · rcases hcase _ _ hp' with ⟨rfl, rfl⟩ | ⟨_, hq⟩
    · exact (hcells hk).1
    · exact h.vars _ _ hq hk hps
theorem within_lay {b : Nat} (hb : ρ b = none) {p : Pl} {N : Nat} (hp : N ≤ p.c) : Within (permOf ρ m) (permOf (ρ.put b p) m) N := by
  have hcase : ∀ b' p', ρ.put b p b' = some p' → (b' = b ∧ p' = p) ∨ ρ b' = some p' := by
    intro b' p' hp'
    unfold Ren.put at hp'
    split at hp'
    · rename_i e; exact .inl ⟨e, (Option.some.inj hp').symm⟩
    · exact .inr hp'
  refine ⟨?_, ?_, ?_⟩
  · rintro c x ⟨b', p', h1, rfl, h3⟩
    rcases hcase _ _ h1 with ⟨_, rfl⟩ | h1
    · exact .inr hp
    · exact .inl ⟨b', p', h1, rfl, h3⟩
  · rintro c x ⟨b', p', h1, rfl, h3⟩
    rcases hcase _ _ h1 with ⟨_, rfl⟩ | h1
    · exact .inr hp
    · exact .inl ⟨b', p', h1, rfl, h3⟩
  · rintro c ⟨b', p', h1, rfl, h3⟩
    rcases hcase _ _ h1 with ⟨_, rfl⟩ | h1
    · exact .inr hp
    · exact .inl ⟨b', p', h1, rfl, h3⟩
theorem Within.trans {R R₁ R₂ : Perm} {N : Nat} (h : Within R R₁ N) (k : Within R₁ R₂ N) : Within R R₂ N :=
  ⟨fun b o x => (k.rd b o x).elim (h.rd b o) .inr, fun b o x => (k.wr b o x).elim (h.wr b o) .inr, fun b x => (k.ob b x).elim (h.ob b) .inr⟩

/-- A block is taken away. -/
theorem Sim.kill (h : Sim ρ m w) (b : Nat) : Sim ρ (m.setBlk b {}) w := by
  have hsame : ∀ b', (m.setBlk b {}).blk b' = if b = b' then { stamp := m.tick } else m.blk b' := fun b' => Mem.blk_setBlk ..
  have hne : ∀ b', ((m.setBlk b {}).blk b').kind ≠ 0 → b ≠ b' ∧ (m.setBlk b {}).blk b' = m.blk b' := by
    intro b' hk
    rw [hsame] at hk ⊢
    by_cases hb : b = b'
    · rw [if_pos hb] at hk; exact absurd rfl hk
    · rw [if_neg hb]; exact ⟨hb, rfl⟩
  refine ⟨h.dom, fun b' p' hp' hk => ?_, fun b' p' x v hp' hc => ?_, fun b' p' x hp' hx hk hbb => ?_, fun b' p' hp' hk ho => ?_, fun b' p' hp' hk ho => ?_, fun b₁ b₂ p₁ p₂ hne' h₁ h₂ k₁ k₂ hc => ?_, h.inw, fun b' p' hp' hk hps => ?_⟩
  · obtain ⟨_, e⟩ := hne b' (by omega)
    rw [e] at hk ⊢; exact h.cells b' p' hp' hk
  · have hk := (Mem.okR_of_cell hc).1
    obtain ⟨_, e⟩ := hne b' (by omega)
    refine h.vals b' p' x v hp' ?_
    unfold Mem.cell at hc ⊢
    rw [e] at hc; exact hc
  · obtain ⟨_, e⟩ := hne b' (by omega)
    rw [e] at hk; exact h.thaw b' p' x hp' hx hk hbb
  · obtain ⟨_, e⟩ := hne b' (by omega)
    rw [e] at hk ⊢; exact h.maps b' p' hp' hk ho
  · obtain ⟨_, e⟩ := hne b' (by omega)
    rw [e] at hk ⊢; exact h.iters b' p' hp' hk ho
  · obtain ⟨_, e₁⟩ := hne b₁ k₁
    obtain ⟨_, e₂⟩ := hne b₂ k₂
    rw [e₁] at k₁ ⊢; rw [e₂] at k₂ ⊢
    exact h.sep b₁ b₂ p₁ p₂ hne' h₁ h₂ k₁ k₂ hc
  · obtain ⟨_, e⟩ := hne b' (by omega)
    rw [e] at hk hps; exact h.vars b' p' hp' hk hps
theorem within_kill (b N : Nat) : Within (permOf ρ m) (permOf ρ (m.setBlk b {})) N := by
  have hsame : ∀ b', (m.setBlk b {}).blk b' = if b = b' then { stamp := m.tick } else m.blk b' := fun b' => Mem.blk_setBlk ..
  have hne : ∀ b', ((m.setBlk b {}).blk b').kind ≠ 0 → (m.setBlk b {}).blk b' = m.blk b' := by
    intro b' hk
    rw [hsame] at hk ⊢
    by_cases hb : b = b'
    · rw [if_pos hb] at hk; exact absurd rfl hk
    · rw [if_neg hb]
  refine ⟨?_, ?_, ?_⟩
  · rintro c x ⟨b', p, h1, h2, h3, h4, h5⟩
    have e := hne b' (by have := h5.1; omega)
    exact .inl ⟨b', p, h1, h2, h3, h4, by unfold Mem.okR at h5 ⊢; rw [e] at h5; exact h5⟩
  · rintro c x ⟨b', p, h1, h2, h3, h4, h5⟩
    have e := hne b' (by have := h5.1.1; omega)
    exact .inl ⟨b', p, h1, h2, h3, h4, by unfold Mem.okW Mem.okR at h5 ⊢; rw [e] at h5; exact h5⟩
  · rintro c ⟨b', p, h1, h2, h3, h4⟩
    have e := hne b' (by omega)
    exact .inl ⟨b', p, h1, h2, by rwa [e] at h3, h4⟩

/-- What an operation leaves: the new places, the memory, the world. -/
structure Left (ρ : Ren) (m : Mem) (w : World) (ρ' : Ren) (m' : Mem) (w' : World) : Prop where
  le : ρ.le ρ'
  sim : Sim ρ' m' w'
  within : Within (permOf ρ m) (permOf ρ' m') w.heap.size
  old : ∀ b, b < m.next → ρ' b = ρ b
theorem Left.refl (h : Sim ρ m w) : Left ρ m w ρ m w := ⟨ρ.le_refl, h, Within.refl _ _, fun _ _ => rfl⟩
theorem put_old {ρ : Ren} {n : Nat} {p : Pl} : ∀ b, b < n → ρ.put n p b = ρ b := fun b hb => Ren.put_ne _ _ (by omega)

theorem okS_newRow {P : Program} {R : Perm} {N : Nat} {e : TypeId} {C : Array Value} {Q : Addr → World → Prop} (hq : Q ⟨w.heap.size, 0, none⟩ { w with heap := w.heap.push (.cells C e) }) : okS P R N (newRow e C) Q w := hq
/-- A row of new cells. -/
theorem Sim.newCells (h : Sim ρ m w) {sz ps : Nat} {vs : List Value} {C : Array Value} (e : TypeId) (hlen : vs.length ≤ C.size) (hv : ∀ (i : Nat) v, vs[i]? = some v → ∃ v', C[i]? = some v' ∧ VRel ρ v v') :
    Left ρ m w (ρ.put m.next ⟨w.heap.size, 0, C.size, sz⟩) (m.alloc { kind := 1, sz := sz, cs := vs.map some, pos := ps }) { w with heap := w.heap.push (.cells C e) } := by
  have hn := none_next h
  have hblk : (m.alloc { kind := 1, sz := sz, cs := vs.map some, pos := ps }).blk m.next = { kind := 1, sz := sz, cs := vs.map some, pos := ps, stamp := m.tick } := by rw [Mem.blk_alloc, if_pos rfl]
  refine ⟨Ren.le_put hn _, (h.bump { kind := 1, sz := sz, cs := vs.map some, pos := ps }).lay hn (by simp) (o := .cells C e) rfl rfl (fun _ => ?_) (fun hk => by rw [hblk] at hk; simp at hk) (fun hk => by rw [hblk] at hk; simp at hk),
    (within_elsewhere (alloc_elsewhere h _) rfl rfl rfl rfl _).trans (within_lay hn (Nat.le_refl _)), put_old⟩
  rw [hblk]
  refine ⟨rfl, rfl, by simpa using hlen, C, e, (0, 0), rfl, Nat.le_refl _, fun x _ hx => by omega, fun i v hi => ?_⟩
  rw [List.getElem?_map, Option.map_eq_some_iff] at hi
  obtain ⟨u, hu, hx⟩ := hi
  obtain rfl : u = v := by simpa using hx
  exact hv i u hu
theorem Sim.newCells' (h : Sim ρ m w) {sz ps : Nat} {vs : List Value} {vs' : List Value} (e : TypeId) (hv : Rel2 (VRel ρ) vs vs') :
    Left ρ m w (ρ.put m.next ⟨w.heap.size, 0, vs'.length, sz⟩) (m.alloc { kind := 1, sz := sz, cs := vs.map some, pos := ps }) { w with heap := w.heap.push (.cells vs'.toArray e) } := by
  have := h.newCells (sz := sz) (ps := ps) (vs := vs) (C := vs'.toArray) e (by simp [hv.length]) (fun i v hi => by simpa using hv.get hi)
  simpa using this
theorem Sim.newCellsA (h : Sim ρ m w) {sz ps : Nat} {G G' : Array Value} (e : TypeId) (hv : Rel2 (VRel ρ) G.toList G'.toList) :
    Left ρ m w (ρ.put m.next ⟨w.heap.size, 0, G'.size, sz⟩) (m.alloc { kind := 1, sz := sz, cs := G.toList.map some, pos := ps }) { w with heap := w.heap.push (.cells G' e) } := by
  have := h.newCells (sz := sz) (ps := ps) (vs := G.toList) (C := G') e (by have := hv.length; simp at this; simp; omega) (fun i v hi => by simpa using hv.get hi)
  exact this
end
end Go.AM
/-
  OPERATIONS, ONE BY ONE: what the abstract machine makes of an operation is what the model's does.
-/
set_option linter.unusedVariables false
set_option linter.unusedSimpArgs false
namespace Go.AM
open Go

section types
variable {P : Program} {R : Perm} {N : Nat} {w : World} {t : TypeId}
theorem okS_pure {α : Type} {a : α} {Q : α → World → Prop} (h : Q a w) : okS P R N (pure a) Q w := h
theorem okS_underlying {Q : TypeDesc → World → Prop} {d : TypeDesc} (h : P.underlying t = some d) (hq : Q d w) : okS P R N (underlying t) Q w := by
  unfold underlying
  rw [okS_bind]
  show okS P R N (match P.underlying t with | some d => pure d | none => stuck "no such type") Q w
  rw [h]; exact hq
theorem okS_typeInfo {Q : TypeInfo → World → Prop} {d : TypeInfo} (h : P.info? t = some d) (hq : Q d w) : okS P R N (typeInfo t) Q w := by
  unfold typeInfo
  rw [okS_bind]
  show okS P R N (match P.info? t with | some d => pure d | none => stuck "no such type") Q w
  rw [h]; exact hq
theorem sizeT_info {n : Nat} (h : sizeT P t = some n) : ∃ i, P.info? t = some i ∧ i.size = n := by
  unfold sizeT at h
  exact Option.map_eq_some_iff.1 h
theorem okS_sizeOf {Q : Nat → World → Prop} {n : Nat} (h : sizeT P t = some n) (hq : Q n w) : okS P R N (sizeOf t) Q w := by
  obtain ⟨i, hi, rfl⟩ := sizeT_info h
  unfold sizeOf
  rw [okS_bind]
  exact okS_typeInfo hi hq
theorem zeroT_info {z : Value} (h : zeroT P t = some z) : ∃ i, P.info? t = some i ∧ i.zero = some z := by
  unfold zeroT at h
  split at h
  · rename_i i hi
    split at h
    · rename_i z' hz
      split at h
      · simp only [Option.some.injEq] at h; subst h; exact ⟨i, hi, hz⟩
      · cases h
    · cases h
  · cases h
theorem zeroT_plain {z : Value} (h : zeroT P t = some z) : z.cells.toList.all plain1 = true ∧ sizeT P t = some z.cells.size := by
  unfold zeroT at h
  split at h
  · rename_i i hi
    split at h
    · rename_i z' hz
      split at h
      · rename_i hc
        simp only [Option.some.injEq] at h; subst h
        simp only [Bool.and_eq_true, beq_iff_eq] at hc
        exact ⟨hc.1, by unfold sizeT; rw [hi, hc.2]; rfl⟩
      · cases h
    · cases h
  · cases h
theorem okS_zeroValue {Q : Value → World → Prop} {z : Value} (h : zeroT P t = some z) (hq : Q z w) : okS P R N (zeroValue t) Q w := by
  obtain ⟨i, hi, hz⟩ := zeroT_info h
  unfold zeroValue
  rw [okS_bind]
  refine okS_typeInfo hi ?_
  rw [hz]; exact hq
theorem okS_isAgg {Q : Bool → World → Prop} {b : Bool} (h : aggT P t = some b) (hq : Q b w) : okS P R N (isAgg t) Q w := by
  unfold aggT at h
  obtain ⟨d, hd, hb⟩ := Option.map_eq_some_iff.1 h
  unfold isAgg
  rw [okS_bind]
  refine okS_underlying hd ?_
  subst hb
  cases d <;> exact hq
end types

section
variable {P : Program} {ρ : Ren} {m : Mem} {w : World} {N : Nat}
theorem loadA_sound (h : Sim ρ m w) {t : TypeId} {p p' v : Value} (hp : VRel ρ p p') (hl : loadA P t p m = some v) {Q : Value → World → Prop} (hq : ∀ v', VRel ρ v v' → Q v' w) :
    okS P (permOf ρ m) N (Instr.loadAt t p') Q w := by
  unfold loadA at hl
  split at hl
  · rename_i b o
    obtain ⟨pl, hpl, _, rfl⟩ := vrel_ptr.1 hp
    unfold Instr.loadAt loadVar
    rw [okS_bind]
    show okS P (permOf ρ m) N (isAgg t >>= fun x => if x = true then (do let n ← sizeOf t; let cs ← loadCells ⟨pl.c, pl.d + o, none⟩ n; pure (.agg cs)) else Go.load ⟨pl.c, pl.d + o, none⟩) Q w
    rw [okS_bind]
    split at hl
    · rename_i ha
      obtain ⟨n, hn, hl⟩ := Option.bind_eq_some_iff.1 hl
      obtain ⟨l, hl2, rfl⟩ := Option.map_eq_some_iff.1 hl
      refine okS_isAgg ha ?_
      simp only [if_true]
      rw [okS_bind]
      refine okS_sizeOf hn ?_
      rw [okS_bind]
      refine h.okS_loadCells hpl hl2 (fun vs' hvs => ?_)
      exact hq _ (vrel_agg.2 ⟨_, rfl, by simpa using hvs⟩)
    · rename_i ha
      obtain ⟨l, hl, hh⟩ := Option.bind_eq_some_iff.1 hl
      refine okS_isAgg ha ?_
      simp only [Bool.false_eq_true, if_false]
      obtain ⟨u, v', h1, h2, h3, h4⟩ := h.load1 hpl hl (show 0 < 1 by omega)
      have : u = v := by
        cases l with
        | nil => simp at hh
        | cons x l => simp at hh h1; rw [← h1, hh]
      subst this
      exact okS_load h3 h4 (hq _ h2)
    · cases hl
  · cases hl
theorem stores_okS (h : Sim ρ m w) {b : Nat} {pl : Pl} (hpl : ρ b = some pl) {o : Nat} {vs vs' : List Value} {m' : Mem} (hs : m.stores b o vs = some m') (hv : Rel2 (VRel ρ) vs vs') {Q : Unit → World → Prop}
    (hq : ∀ w', Left ρ m w ρ m' w' → w'.drawn = w.drawn → Q () w') : okS P (permOf ρ m) N (storeCells ⟨pl.c, pl.d + o, none⟩ vs') Q w := by
  obtain ⟨cs, rfl, hk, hmay, hput, hone⟩ := Mem.stores_spec hs
  obtain ⟨_, _, hlive⟩ := putLive_spec hput
  have hlen := hv.length
  refine okS_storeCells vs' 0 w (fun v hv' => ?_) (fun j hj => ?_) (fun w' hw => hq w' ⟨ρ.le_refl, h.wrote hpl hv hk hput (by simpa using hw), permOf_setBlk hk hput _, fun _ _ => rfl⟩ hw.drawn)
  · obtain ⟨i, hi⟩ := List.mem_iff_getElem?.1 hv'
    obtain ⟨u, hu, hr⟩ := hv.get' hi
    exact hr.oneCell (hone u (List.mem_of_getElem? hu))
  · rw [Nat.add_zero, Nat.add_assoc]
    obtain ⟨u, hu⟩ := hlive j (by omega)
    obtain ⟨hh, hf⟩ := Mem.mayWrite_spec hmay (i := j) (by omega)
    have hc : m.cell b (o + j) = some u := by unfold Mem.cell; rw [if_pos ⟨hk, hh⟩, hu]; rfl
    obtain ⟨u', hu', _⟩ := h.vals b pl _ u hpl hc
    have hr := room_of_cell h hpl hc
    have hw : m.okW b (o + j) := ⟨Mem.okR_of_cell hc, hf⟩
    exact ⟨by rw [hu']; rfl, h.thaw b pl _ hpl hr hk (Mem.mayWrite_base hmay), wr_of_okW hpl hr hw⟩
theorem storeA_sound (h : Sim ρ m w) {t : TypeId} {p p' x x' : Value} {m' : Mem} (hp : VRel ρ p p') (hx : VRel ρ x x') (hs : storeA P t p x m = some m') {Q : Unit → World → Prop} (hq : ∀ w', Left ρ m w ρ m' w' → Q () w') :
    okS P (permOf ρ m) N (Instr.storeAt t p' x') Q w := by
  unfold storeA at hs
  split at hs
  · rename_i b o
    obtain ⟨pl, hpl, _, rfl⟩ := vrel_ptr.1 hp
    split at hs
    · rename_i hsz
      have hc := hx.cells
      have hl := hc.length
      simp only [Array.length_toList] at hl
      unfold Instr.storeAt storeVar
      rw [okS_bind]
      show okS P (permOf ρ m) N (sizeOf t >>= fun n => if x'.cells.size ≠ n then (do stuck "storeVar: the value has not the size of the variable"; storeCells ⟨pl.c, pl.d + o, none⟩ x'.cells.toList) else (do pure PUnit.unit; storeCells ⟨pl.c, pl.d + o, none⟩ x'.cells.toList)) Q w
      rw [okS_bind]
      refine okS_sizeOf hsz ?_
      rw [if_neg (by simpa using hl.symm)]
      exact stores_okS h hpl hs hc fun w' hw _ => hq w' hw
    · cases hs
  · cases hs
theorem newVar_okS (h : Sim ρ m w) {t : TypeId} {v v' : Value} (hv : Rel2 (VRel ρ) v.cells.toList v'.cells.toList) {sz ps : Nat} {Q : Addr → World → Prop}
    (hq : ∀ w' ρ', Left ρ m w ρ' (m.alloc { kind := 1, sz := sz, cs := v.cells.toList.map some, pos := ps }) w' → VRel ρ' (ptrTo m.next 0) (.pointer (some ⟨w.heap.size, 0, none⟩)) → Q ⟨w.heap.size, 0, none⟩ w') :
    okS P (permOf ρ m) N (newVar t v') Q w := by
  unfold newVar
  refine okS_newRow ?_
  have := h.newCells' (sz := sz) (ps := ps) (vs := v.cells.toList) t hv
  refine hq _ _ (by simpa using this) (vrel_ptr.2 ⟨_, Ren.put_same .., rfl, rfl⟩)

/-! ### addresses, parts -/
theorem fieldAddrA_sound {s : TypeId} {p p' v : Value} {f : Nat} (hp : VRel ρ p p') (hf : fieldAddrA P s p f = some v) {Q : Value → World → Prop} {R : Perm} (hq : ∀ v', VRel ρ v v' → Q v' w) : okS P R N (Instr.fieldAt s p' f) Q w := by
  unfold fieldAddrA at hf
  split at hf
  · rename_i fields b o hu
    split at hf
    · rename_i fd hfd
      split at hf
      · rename_i k hk
        simp only [Option.some.injEq] at hf
        subst hf
        obtain ⟨pl, hpl, _, rfl⟩ := vrel_ptr.1 hp
        unfold Instr.fieldAt
        rw [okS_bind]
        refine okS_underlying hu ?_
        show okS P R N (match fields[f]? with | some f => (do let a ← Instr.sureAddr (.pointer (some ⟨pl.c, pl.d + o, none⟩)); pure (.pointer (some (← fieldPlace a f)))) | _ => stuck "fieldAddr: no such field") Q w
        rw [hfd]
        show okS P R N (do let a ← (pure (some (← fieldPlace ⟨pl.c, pl.d + o, none⟩ fd))); pure (.pointer a)) Q w
        unfold fieldPlace
        simp only [bind_assoc, pure_bind]
        rw [okS_bind]
        refine okS_sizeOf hk ?_
        rw [if_neg (by omega)]
        simp only [pure_bind]
        rw [addr_add, Nat.add_assoc]
        exact hq _ (vrel_ptr.2 ⟨pl, hpl, rfl, rfl⟩)
      · cases hf
    · cases hf
  · cases hf
theorem indexAddrA_sound {t : TypeId} {x x' i i' v : Value} (hx : VRel ρ x x') (hi : VRel ρ i i') (hf : indexAddrA P t x i = some v) {Q : Value → World → Prop} {R : Perm} (hq : ∀ v', VRel ρ v v' → Q v' w) : okS P R N (Instr.indexAt t x' i') Q w := by
  unfold indexAddrA at hf
  split at hf
  · rename_i e b o len cap k n hu
    obtain ⟨pl, cap', hpl, _, rfl, _⟩ := vrel_slice.1 hx
    obtain rfl := (vrel_same (by rfl)).1 hi
    split at hf
    · rename_i hb
      obtain ⟨s, hs, rfl⟩ := Option.map_eq_some_iff.1 hf
      unfold Instr.indexAt
      simp only [asIntOf, pure_bind]
      rw [okS_bind]
      refine okS_underlying hu ?_
      simp only [pure_bind]
      rw [okS_bind]
      refine okS_underlying hu ?_
      simp only [if_pos hb]
      rw [okS_bind]
      refine okS_sizeOf hs ?_
      rw [addr_add, Nat.add_assoc]
      exact hq _ (vrel_ptr.2 ⟨pl, hpl, rfl, rfl⟩)
    · cases hf
  · rename_i len e b o k n hu
    obtain ⟨pl, hpl, _, rfl⟩ := vrel_ptr.1 hx
    obtain rfl := (vrel_same (by rfl)).1 hi
    split at hf
    · rename_i hb
      obtain ⟨s, hs, rfl⟩ := Option.map_eq_some_iff.1 hf
      unfold Instr.indexAt
      simp only [asIntOf, pure_bind]
      rw [okS_bind]
      refine okS_underlying hu ?_
      simp only [Instr.sureAddr, pure_bind]
      rw [okS_bind]
      refine okS_underlying hu ?_
      simp only [if_pos hb]
      rw [okS_bind]
      refine okS_sizeOf hs ?_
      rw [addr_add, Nat.add_assoc]
      exact hq _ (vrel_ptr.2 ⟨pl, hpl, rfl, rfl⟩)
    · cases hf
  · cases hf
theorem partA_sound {t : TypeId} {cs cs' : Array Value} {off : Nat} {v : Value} (hc : Rel2 (VRel ρ) cs.toList cs'.toList) (hf : partA P t cs off = some v) {Q : Value → World → Prop} {R : Perm} (hq : ∀ v', VRel ρ v v' → Q v' w) : okS P R N (part t cs' off) Q w := by
  unfold partA at hf
  unfold part
  rw [okS_bind]
  split at hf
  · rename_i ha
    obtain ⟨n, hn, rfl⟩ := Option.map_eq_some_iff.1 hf
    refine okS_isAgg ha ?_
    simp only [if_true]
    rw [okS_bind]
    refine okS_sizeOf hn ?_
    refine hq _ (vrel_agg.2 ⟨_, rfl, ?_⟩)
    simp only [Array.toList_extract, List.extract_eq_take_drop]
    exact (hc.drop off).take _
  · rename_i ha
    refine okS_isAgg ha ?_
    simp only [Bool.false_eq_true, if_false]
    obtain ⟨v', h1, h2⟩ := hc.get (i := off) (by simpa using hf)
    rw [show cs'[off]? = some v' by simpa using h1]
    exact hq _ h2
  · cases hf
theorem fieldA_sound {s : TypeId} {x x' v : Value} {f : Nat} (hx : VRel ρ x x') (hf : fieldA P s x f = some v) {Q : Value → World → Prop} {R : Perm} (hq : ∀ v', VRel ρ v v' → Q v' w) : okS P R N (Instr.field s x' f) Q w := by
  unfold fieldA at hf
  split at hf
  · rename_i fields cs hu
    obtain ⟨fd, hfd, hf2⟩ := Option.bind_eq_some_iff.1 hf
    obtain ⟨cs', rfl, hc⟩ := vrel_agg.1 hx
    unfold Instr.field
    rw [okS_bind]
    refine okS_underlying hu ?_
    simp only [hfd, asAgg, pure_bind]
    exact partA_sound hc hf2 hq
  · cases hf
theorem indexA_sound {t : TypeId} {x x' i i' v : Value} (hx : VRel ρ x x') (hi : VRel ρ i i') (hf : indexA P t x i = some v) {Q : Value → World → Prop} {R : Perm} (hq : ∀ v', VRel ρ v v' → Q v' w) : okS P R N (Instr.index t x' i') Q w := by
  unfold indexA at hf
  split at hf
  · rename_i len e cs k n hu
    obtain ⟨cs', rfl, hc⟩ := vrel_agg.1 hx
    obtain rfl := (vrel_same (by rfl)).1 hi
    split at hf
    · rename_i hb
      obtain ⟨s, hs, hf2⟩ := Option.bind_eq_some_iff.1 hf
      unfold Instr.index
      simp only [asIntOf, pure_bind]
      rw [okS_bind]
      refine okS_underlying hu ?_
      simp only [if_pos hb]
      rw [okS_bind]
      refine okS_sizeOf hs ?_
      exact partA_sound hc hf2 hq
    · cases hf
  · cases hf

/-! ### slices -/
theorem boundA_okS {v : Value} {d y h : Nat} {code : BoundsCode} (hb : boundA (some v) d = some h) (hy : h ≤ y) {Q : Nat → World → Prop} {R : Perm} (hq : Q h w) : okS P R N (Instr.sliceBound v y code) Q w := by
  unfold boundA at hb
  split at hb
  · rename_i e; cases e
  · rename_i k n e
    cases e
    split at hb
    · simp only [Option.some.injEq] at hb; subst hb
      simp only [Instr.sliceBound, asIntOf, pure_bind]
      rw [if_pos ⟨by assumption, by omega⟩]
      exact hq
    · cases hb
  · cases hb
theorem boundA_none {d h : Nat} (hb : boundA none d = some h) : h = d := by simpa [boundA] using hb.symm
theorem sliceBounds_okS {isS : Bool} {len cap l h : Nat} {lo hi : Option Value} (hl : boundA lo 0 = some l) (hh : boundA hi len = some h) (hlh : l ≤ h) (hc : h ≤ cap) {Q : Nat × Nat × Nat → World → Prop} {R : Perm} (hq : Q (l, h, cap) w) :
    okS P R N (Instr.sliceBounds isS len cap lo hi none) Q w := by
  unfold Instr.sliceBounds
  simp only [pure_bind]
  cases hi with
  | none =>
    obtain rfl := boundA_none hh
    cases lo with
    | none => obtain rfl := boundA_none hl; exact hq
    | some v =>
      simp only []
      rw [okS_bind]
      exact boundA_okS hl hlh hq
  | some u =>
    simp only []
    rw [okS_bind]
    refine boundA_okS hh hc ?_
    cases lo with
    | none => obtain rfl := boundA_none hl; exact hq
    | some v =>
      simp only []
      rw [okS_bind]
      exact boundA_okS hl hlh hq
def OptRel (ρ : Ren) : Option Value → Option Value → Prop
  | none, none => True
  | some a, some b => VRel ρ a b
  | _, _ => False
theorem vrel_opt {v : Option Value} {v' : Option Value} (h : OptRel ρ v v') {d n : Nat} (hb : boundA v d = some n) : v' = v := by
  unfold boundA at hb
  split at hb
  · cases v' with
    | none => rfl
    | some b => exact h.elim
  · cases v' with
    | none => exact h.elim
    | some b => rw [(vrel_same (by rfl)).1 h]
  · cases hb
theorem sliceA_sound (hsim : Sim ρ m w) {t : TypeId} {x x' v : Value} {lo hi lo' hi' : Option Value} (hx : VRel ρ x x') (hlo : OptRel ρ lo lo') (hhi : OptRel ρ hi hi') (hf : sliceA P t x lo hi m = some v)
    {Q : Value → World → Prop} {R : Perm} (hq : ∀ v', VRel ρ v v' → Q v' w) : okS P R N (Instr.sliceAt t x' lo' hi' none) Q w := by
  unfold sliceA at hf
  split at hf
  · rename_i e b o len cap hu
    split at hf
    · rename_i l h s hl hh hs
      obtain rfl := vrel_opt hlo hl
      obtain rfl := vrel_opt hhi hh
      obtain ⟨pl, cap', hpl, _, rfl, hcap⟩ := vrel_slice.1 hx
      unfold Instr.sliceAt
      rw [okS_bind]
      refine okS_underlying hu ?_
      simp only [Instr.slice]
      rw [okS_bind]
      refine okS_underlying hu ?_
      simp only []
      rw [okS_bind]
      split at hf
      · rename_i hc
        rw [if_pos hc] at hcap
        split at hf
        · rename_i hb
          simp only [Option.some.injEq] at hf
          subst hf
          refine sliceBounds_okS hl hh hb.1 (by omega) ?_
          simp only []
          rw [okS_bind]
          refine okS_sizeOf hs ?_
          refine hq _ (vrel_slice.2 ⟨pl, cap' - l, hpl, rfl, ?_, ?_⟩)
          · congr 1
            rcases hb.2.2 with h0 | h0
            · subst h0; split <;> simp [addr_add]
            · rw [if_neg (by omega)]
              simp only [Option.map_some, addr_add, Nat.add_assoc]
          · rw [if_pos rfl]
            refine ⟨by omega, ?_⟩
            rcases hb.2.2 with h0 | ⟨h0, h1, h2⟩
            · subst h0; simp; exact hcap.2
            · obtain ⟨hsz, _⟩ := hsim.cells b pl hpl h1
              have e2 : pl.sz = s := by rw [hsz, h2]
              rw [e2] at hcap ⊢
              have : l * s + (cap' - l) * s = cap' * s := by rw [← Nat.add_mul]; congr 1; omega
              simp only []
              have h3 := hcap.2
              simp only at h3
              omega
        · cases hf
      · rename_i hc
        rw [if_neg hc] at hcap
        subst hcap
        split at hf
        · rename_i hb
          simp only [Option.some.injEq] at hf
          subst hf
          refine sliceBounds_okS hl hh hb.2.1 hb.2.2 ?_
          simp only []
          rw [okS_bind]
          refine okS_sizeOf hs ?_
          by_cases h0 : cap' = l
          · simp only [h0, if_true]
            exact hq _ (by rw [if_pos h0]; exact vrel_slice.2 ⟨pl, l - l, hpl, rfl, rfl, by rw [if_neg (by unfold INF; omega)]; omega⟩)
          · simp only [h0, if_false, Option.map_some, addr_add, Nat.add_assoc]
            exact hq _ (by rw [if_neg h0]; exact vrel_slice.2 ⟨pl, cap' - l, hpl, rfl, rfl, by rw [if_neg (by have := hb.1; omega)]⟩)
        · cases hf
    · cases hf
  · rename_i e len cap hu
    split at hf
    · rename_i l h s hl hh hs
      obtain rfl := vrel_opt hlo hl
      obtain rfl := vrel_opt hhi hh
      obtain rfl := (vrel_same (by rfl)).1 hx
      split at hf
      · rename_i hb
        simp only [Option.some.injEq] at hf
        subst hf
        unfold Instr.sliceAt
        rw [okS_bind]
        refine okS_underlying hu ?_
        simp only [Instr.slice]
        rw [okS_bind]
        refine okS_underlying hu ?_
        simp only []
        rw [okS_bind]
        refine sliceBounds_okS hl hh hb.2.1 hb.2.2 ?_
        simp only []
        rw [okS_bind]
        refine okS_sizeOf hs ?_
        have e1 : (if cap = l then (none : Option Addr) else Option.map (fun x : Addr => x.add (l * s)) none) = none := by split <;> rfl
        rw [e1]
        exact hq _ ((vrel_same (by rfl)).2 rfl)
      · cases hf
    · cases hf
  · rename_i n e b o hu
    split at hf
    · rename_i l h s hl hh hs
      obtain rfl := vrel_opt hlo hl
      obtain rfl := vrel_opt hhi hh
      obtain ⟨pl, hpl, _, rfl⟩ := vrel_ptr.1 hx
      split at hf
      · rename_i hb
        simp only [Option.some.injEq] at hf
        subst hf
        unfold Instr.sliceAt
        rw [okS_bind]
        refine okS_underlying hu ?_
        simp only [Instr.sureAddr, pure_bind]
        rw [okS_bind]
        refine sliceBounds_okS hl hh hb.2.1 hb.2.2 ?_
        simp only []
        rw [okS_bind]
        refine okS_sizeOf hs ?_
        by_cases h0 : n = l
        · simp only [h0, if_true]
          exact hq _ (by rw [if_pos h0]; exact vrel_slice.2 ⟨pl, n - l, hpl, rfl, by rw [h0], by rw [if_neg (by have := hb.1; omega)]⟩)
        · simp only [h0, if_false, addr_add, Nat.add_assoc]
          exact hq _ (by rw [if_neg h0]; exact vrel_slice.2 ⟨pl, n - l, hpl, rfl, rfl, by rw [if_neg (by have := hb.1; omega)]⟩)
      · cases hf
    · cases hf
  · cases hf
end
end Go.AM
/-
  OPERATIONS, ON: what makes memory; append, copy, clear.
-/
set_option linter.unusedVariables false
set_option linter.unusedSimpArgs false
namespace Go.AM
open Go

section
variable {P : Program} {ρ : Ren} {m : Mem} {w : World} {N : Nat}
/-! ### parts laid into cells -/
theorem foldl_set_rel {l l' : List Value} (h : Rel2 (VRel ρ) l l') (off : Nat) : ∀ {cs cs' : Array Value} (j : Nat), Rel2 (VRel ρ) cs.toList cs'.toList →
    Rel2 (VRel ρ) ((l.zipIdx j).foldl (fun cs (x : Value × Nat) => cs.setIfInBounds (off + x.2) x.1) cs).toList ((l'.zipIdx j).foldl (fun cs (x : Value × Nat) => cs.setIfInBounds (off + x.2) x.1) cs').toList := by
  induction l generalizing l' with
  | nil => intro cs cs' j hc; cases l' with
    | nil => exact hc
    | cons _ _ => exact h.elim
  | cons a l ih =>
    intro cs cs' j hc
    cases l' with
    | nil => exact h.elim
    | cons b l' =>
      simp only [List.zipIdx_cons, List.foldl_cons]
      refine ih h.2 (j + 1) ?_
      simp only [Array.toList_setIfInBounds]
      exact hc.set h.1 _
theorem zip_fold_arr (cs v : Array Value) (off : Nat) : (v.zipIdx.foldl (fun (cs : Array Value) (x : Value × Nat) => cs.setIfInBounds (off + x.2) x.1) cs) = (v.toList.zipIdx.foldl (fun cs (x : Value × Nat) => cs.setIfInBounds (off + x.2) x.1) cs) := by
  rw [← Array.foldl_toList, Array.toList_zipIdx]
theorem fill_rel {place : Nat → Option (Nat × Nat)} : ∀ {parts parts' : List (Nat × Value)} {cs cs' r : Array Value}, Rel2 (fun a b => b.1 = a.1 ∧ VRel ρ a.2 b.2) parts parts' → Rel2 (VRel ρ) cs.toList cs'.toList →
    Instr.fill place cs parts = some r → ∃ r', Instr.fill place cs' parts' = some r' ∧ Rel2 (VRel ρ) r.toList r'.toList := by
  intro parts
  induction parts with
  | nil =>
    intro parts' cs cs' r hp hc h
    cases parts' with
    | cons _ _ => exact hp.elim
    | nil =>
      simp only [Instr.fill, Option.some.injEq] at h ⊢
      subst h
      exact ⟨_, rfl, hc⟩
  | cons x parts ih =>
    intro parts' cs cs' r hp hc h
    cases parts' with
    | nil => exact hp.elim
    | cons y parts' =>
      obtain ⟨i, v⟩ := x
      obtain ⟨i', v'⟩ := y
      obtain ⟨⟨rfl, hv⟩, hp⟩ := hp
      simp only [Instr.fill] at h ⊢
      cases hpl : place i' with
      | none => rw [hpl] at h; cases h
      | some q =>
        obtain ⟨off, size⟩ := q
        rw [hpl] at h
        simp only [] at h ⊢
        have hcl := hv.cells
        have e1 : v'.cells.size = v.cells.size := by simpa using hcl.length.symm
        have e2 : cs'.size = cs.size := by simpa using hc.length.symm
        rw [e1, e2]
        split at h
        · cases h
        · rename_i hcond
          rw [if_neg hcond]
          refine ih hp ?_ h
          rw [zip_fold_arr, zip_fold_arr]
          exact foldl_set_rel hcl off 0 hc

theorem zeros_rel {t : TypeId} {z : Value} (h : zeroT P t = some z) : Rel2 (VRel ρ) z.cells.toList z.cells.toList := plain1_rel2 (zeroT_plain h).1
theorem getBang_plain1 {l : Array Value} (h : l.toList.all plain1 = true) (i : Nat) : plain1 (l[i]!) = true := by
  by_cases hi : i < l.size
  · rw [getElem!_pos l i hi]
    exact List.all_eq_true.1 h _ (by simp)
  · rw [getElem!_neg l i hi]; rfl
theorem range_rel {t : TypeId} {z : Value} (h : zeroT P t = some z) (n : Nat) : Rel2 (VRel ρ) ((Array.range n).map (z.cells[· % z.cells.size]!)).toList ((Array.range n).map (z.cells[· % z.cells.size]!)).toList := by
  refine plain1_rel2 ?_
  rw [List.all_eq_true]
  intro x hx
  simp only [Array.toList_map, List.mem_map] at hx
  obtain ⟨i, _, rfl⟩ := hx
  exact getBang_plain1 (zeroT_plain h).1 _

theorem buildA_sound {t : TypeId} {ps : List (Nat × Value)} {ps' : Array (Nat × Value)} {v : Value} (hp : Rel2 (fun a b => b.1 = a.1 ∧ VRel ρ a.2 b.2) ps ps'.toList) (hb : buildA P t ps = some v)
    {Q : Value → World → Prop} {R : Perm} (hq : ∀ v', VRel ρ v v' → Q v' w) : okS P R N (Instr.build t ps') Q w := by
  unfold buildA at hb
  split at hb
  · rename_i z fields hz' hu
    split at hb
    · rename_i places hpl
      obtain ⟨r, hr, rfl⟩ := Option.map_eq_some_iff.1 hb
      obtain ⟨r', hr', hrel⟩ := fill_rel hp (zeros_rel hz') hr
      unfold Instr.build
      rw [okS_bind]
      refine okS_zeroValue hz' ?_
      simp only []
      rw [okS_bind]
      refine okS_underlying hu ?_
      simp only []
      rw [okS_bind]
      have key : ∀ (l : List Field) (pl : List (Nat × Nat)) (Q : List (Nat × Nat) → World → Prop), l.mapM (m := Option) (fun f => (sizeT P f.type).map fun n => (f.offset, n)) = some pl → Q pl w →
          okS P R N (l.mapM (m := Sem) fun f => do pure (f.offset, ← sizeOf f.type)) Q w := by
        intro l
        induction l with
        | nil => intro pl Q h hq; simp at h; subst h; simpa using okS_pure hq
        | cons f l ih =>
          intro pl Q h hq
          rw [List.mapM_cons] at h ⊢
          simp only [Option.bind_eq_bind, Option.bind_eq_some_iff, Option.map_eq_some_iff, Option.pure_def, Option.some.injEq] at h
          obtain ⟨x, ⟨n, hn, rfl⟩, ys, hys, rfl⟩ := h
          simp only [bind_assoc, pure_bind]
          rw [okS_bind]
          refine okS_sizeOf hn ?_
          rw [okS_bind]
          exact ih ys _ hys (okS_pure hq)
      rw [Array.mapM_eq_mapM_toList] at hpl ⊢
      simp only [Option.map_eq_map, Option.map_eq_some_iff] at hpl
      obtain ⟨pl, hpl, rfl⟩ := hpl
      rw [← bind_pure_comp, okS_bind]
      refine key fields.toList pl _ hpl ?_
      show okS P R N (pure pl.toArray) _ w
      refine okS_pure ?_
      simp only [hr']
      exact hq _ (vrel_agg.2 ⟨_, rfl, hrel⟩)
    · cases hb
  · rename_i z n e hz' hu
    obtain ⟨s, hs, hb2⟩ := Option.bind_eq_some_iff.1 hb
    obtain ⟨r, hr, rfl⟩ := Option.map_eq_some_iff.1 hb2
    obtain ⟨r', hr', hrel⟩ := fill_rel hp (zeros_rel hz') hr
    unfold Instr.build
    rw [okS_bind]
    refine okS_zeroValue hz' ?_
    simp only []
    rw [okS_bind]
    refine okS_underlying hu ?_
    simp only []
    rw [okS_bind]
    refine okS_sizeOf hs ?_
    simp only [hr']
    exact hq _ (vrel_agg.2 ⟨_, rfl, hrel⟩)
  · cases hb
theorem buildSliceA_sound (h : Sim ρ m w) {t : TypeId} {n : Nat} {ps : List (Nat × Value)} {ps' : Array (Nat × Value)} {v : Value} {m' : Mem} (hp : Rel2 (fun a b => b.1 = a.1 ∧ VRel ρ a.2 b.2) ps ps'.toList)
    (hb : buildSliceA P t n ps m = some (v, m')) {Q : Value → World → Prop} {R : Perm} (hq : ∀ v' w' ρ', Left ρ m w ρ' m' w' → VRel ρ' v v' → Q v' w') : okS P R N (Instr.buildSlice t n ps') Q w := by
  unfold buildSliceA at hb
  split at hb
  · rename_i e hu
    split at hb
    · rename_i size z hs hz'
      split at hb
      · cases hb
      · rename_i hsz
        obtain ⟨r, hr, hb2⟩ := Option.map_eq_some_iff.1 hb
        simp only [Prod.mk.injEq] at hb2
        obtain ⟨rfl, rfl⟩ := hb2
        obtain ⟨r', hr', hrel⟩ := fill_rel hp (range_rel hz' _) hr
        unfold Instr.buildSlice
        rw [okS_bind]
        refine okS_underlying hu ?_
        simp only []
        rw [okS_bind]
        refine okS_sizeOf hs ?_
        rw [if_neg (by omega)]
        have fin : okS P R N (do
            let a ← newRow e r'
            pure (.slice (some a) n n)) Q w := by
          rw [okS_bind]
          refine okS_newRow ?_
          have hL := h.newCellsA (sz := size) (ps := 0) (G := r) (G' := r') e hrel
          refine hq _ _ _ hL (vrel_slice.2 ⟨_, n, Ren.put_same .., rfl, rfl, ?_⟩)
          rw [if_neg (by omega)]
        by_cases h0 : n * size = 0
        · rw [if_pos h0]
          have e0 : (Array.range (n * size)).map (fun x => (#[] : Array Value)[x % (#[] : Array Value).size]!) = (Array.range (n * size)).map (fun x => z.cells[x % z.cells.size]!) := by rw [h0]; simp
          show okS P R N (match Instr.fill (fun i => some (i * size, size)) ((Array.range (n * size)).map (fun x => (#[] : Array Value)[x % (#[] : Array Value).size]!)) ps'.toList with
            | some cells => (do let a ← newRow e cells; pure (.slice (some a) n n))
            | _ => stuck "buildSlice: a part of the wrong size") Q w
          rw [e0, hr']
          exact fin
        · rw [if_neg h0]
          simp only [bind_assoc, pure_bind]
          rw [okS_bind]
          refine okS_zeroValue hz' ?_
          simp only [hr']
          exact fin
    · cases hb
  · cases hb

theorem makeSliceA_sound (h : Sim ρ m w) {t : TypeId} {l l' c c' v : Value} {m' : Mem} (hl : VRel ρ l l') (hc : VRel ρ c c') (hb : makeSliceA P t l c m = some (v, m')) {Q : Value → World → Prop} {R : Perm}
    (hq : ∀ v' w' ρ', Left ρ m w ρ' m' w' → VRel ρ' v v' → Q v' w') : okS P R N (Instr.makeSlice t l' c') Q w := by
  unfold makeSliceA at hb
  split at hb
  · rename_i e l c hu
    obtain rfl := (vrel_same (by rfl)).1 hl
    obtain rfl := (vrel_same (by rfl)).1 hc
    split at hb
    · rename_i i z hi hz
      split at hb
      · rename_i hcond
        simp only [Option.some.injEq, Prod.mk.injEq] at hb
        obtain ⟨rfl, rfl⟩ := hb
        obtain ⟨h1, h2, h3, h4⟩ := hcond
        have hs : sizeT P e = some i.size := by unfold sizeT; rw [hi]; rfl
        have w1 : IntKind.i64.wrap l = l := by unfold IntKind.wrap; simp [IntKind.min, IntKind.max, IntKind.signed, IntKind.bits]; omega
        have w2 : IntKind.i64.wrap c = c := by unfold IntKind.wrap; simp [IntKind.min, IntKind.max, IntKind.signed, IntKind.bits]; omega
        unfold Instr.makeSlice
        rw [okS_bind]
        refine okS_underlying hu ?_
        simp only [asInt, asIntOf, pure_bind]
        rw [okS_bind]
        refine okS_typeInfo hi ?_
        simp only [w1, w2]
        have h5 : (i.bytes : Int) * c ≤ 1099511627776 := by rw [Int.mul_comm]; exact h3
        have n1 : (decide (c < 0) || decide ((i.bytes : Int) * c > 2 ^ 48)) = false := by
          simp only [Bool.or_eq_false_iff, decide_eq_false_iff_not]; omega
        rw [n1]
        have n2 : (false || decide (l < 0) || decide (l > c)) = false := by
          simp only [Bool.false_or, Bool.or_eq_false_iff, decide_eq_false_iff_not]; omega
        rw [n2]
        simp only [Bool.false_eq_true, if_false]
        rw [okS_bind]
        have hroom : okS P R N (askRoom (c.toNat * i.bytes)) (fun _ w' => w' = w) w := by
          unfold askRoom
          split
          · exact ⟨trivial, rfl⟩
          · rfl
        refine okS_mono hroom ?_
        intro _ w' e'
        rw [e']
        rw [okS_bind]
        refine okS_sizeOf hs ?_
        have fin : okS P R N (do
            let a ← newRow e ((Array.range (c.toNat * i.size)).map (z.cells[· % z.cells.size]!))
            pure (.slice (some a) l.toNat c.toNat)) Q w := by
          rw [okS_bind]
          refine okS_newRow ?_
          have hL := h.newCellsA (sz := i.size) (ps := 0) (G := (Array.range (c.toNat * i.size)).map (z.cells[· % z.cells.size]!)) e (range_rel hz _)
          refine hq _ _ _ hL (vrel_slice.2 ⟨_, c.toNat, Ren.put_same .., rfl, rfl, ?_⟩)
          rw [if_neg (by unfold INF; omega)]
        by_cases h0 : c.toNat * i.size = 0
        · rw [if_pos h0]
          have e0 : (Array.range (c.toNat * i.size)).map (fun x => (#[] : Array Value)[x % (#[] : Array Value).size]!) = (Array.range (c.toNat * i.size)).map (fun x => z.cells[x % z.cells.size]!) := by rw [h0]; simp
          show okS P R N (do
            let a ← newRow e ((Array.range (c.toNat * i.size)).map (fun x => (#[] : Array Value)[x % (#[] : Array Value).size]!))
            pure (.slice (some a) l.toNat c.toNat)) Q w
          rw [e0]
          exact fin
        · rw [if_neg h0]
          rw [okS_bind]
          exact okS_zeroValue hz fin
      · cases hb
    · cases hb
  · cases hb

/-! ### append, copy, clear -/
theorem firstA_sound (h : Sim ρ m w) {size n : Nat} {x x' : Value} (hx : VRel ρ x x') {l : List Value} (hf : firstA m size n x = some l) {Q : Array Value → World → Prop}
    (hq : ∀ l' : List Value, Rel2 (VRel ρ) l l' → Q l'.toArray w) : okS P (permOf ρ m) N (Builtin.firstCells size n x') Q w := by
  unfold firstA at hf
  split at hf
  · rename_i b o len cap
    obtain ⟨pl, cap', hpl, _, rfl, _⟩ := vrel_slice.1 hx
    exact h.okS_loadCells hpl hf hq
  · rename_i len cap
    obtain rfl := (vrel_same (by rfl)).1 hx
    simp only [Option.some.injEq] at hf; subst hf
    exact hq [] trivial
  · rename_i s
    obtain rfl := (vrel_same (by rfl)).1 hx
    split at hf
    · rename_i hc
      simp only [Option.some.injEq] at hf; subst hf
      have e : (s.extract 0 n).data.map (fun b => (Value.int .u8 b.toNat)) = (s.data.toList.map fun b => (Value.int .u8 b.toNat)).toArray := by
        rw [hc.2]
        have : s.extract 0 s.size = s := by
          apply ByteArray.ext
          simp
        rw [this]
        apply Array.ext'
        simp
      show Q ((s.extract 0 n).data.map fun b => (Value.int .u8 b.toNat)) w
      rw [e]
      exact hq _ (plain1_rel2 (by rw [List.all_eq_true]; intro x hx; obtain ⟨b, _, rfl⟩ := List.mem_map.1 hx; rfl))
    · cases hf
  · cases hf
theorem lenA_sound {x x' : Value} (hx : VRel ρ x x') {n : Nat} (hf : lenA x = some n) {Q : Nat → World → Prop} {R : Perm} (hq : Q n w) : okS P R N (Builtin.lenOf x') Q w := by
  unfold lenA at hf
  split at hf
  · rename_i a l c
    simp only [Option.some.injEq] at hf; subst hf
    cases a with
    | none => obtain rfl := (vrel_same (by rfl)).1 hx; exact hq
    | some a => obtain ⟨pl, cap', _, _, rfl, _⟩ := vrel_slice.1 hx; exact hq
  · simp only [Option.some.injEq] at hf; subst hf
    obtain rfl := (vrel_same (by rfl)).1 hx
    exact hq
  · cases hf
theorem firstA_len {size n : Nat} {x : Value} {l : List Value} (hf : firstA m size n x = some l) (hn : lenA x = some n) : l.length = n * size ∨ (∃ k c, x = .slice none k c) := by
  unfold firstA at hf
  split at hf
  · exact .inl (Mem.loads_spec hf).2.1
  · exact .inr ⟨_, _, rfl⟩
  · rename_i s
    split at hf
    · rename_i hc
      simp only [Option.some.injEq] at hf; subst hf
      left
      rw [hc.1, hc.2]
      simp only [List.length_map, Array.length_toList, Nat.mul_one]
      rfl
    · cases hf
  · cases hf

theorem append_inplace (h : Sim ρ m w) {b o len n size : Nat} {pl : Pl} (hpl : ρ b = some pl) (hk : (m.blk b).kind = 1) (hsz : (m.blk b).sz = size) (hown : m.ownsAll b = true) (hlive : ((m.blk b).cs.drop o).all (·.isSome) = true)
    {old new new' : List Value} (hold : takeLive ((m.blk b).cs.drop o) (len * size) = some old) (hnew : Rel2 (VRel ρ) new new') (hnl : new.length = n * size) (hroom : o + (len + n) * size ≤ pl.room)
    {w' : World} (hw : Wrote w w' pl.c (pl.d + o + len * size) new') :
    Left ρ m w (ρ.put m.next ⟨pl.c, pl.d + o, pl.room - o, size⟩) ((m.setBlk b {}).alloc { kind := 1, sz := size, cs := (old ++ new).map some }) w' := by
  have hn := none_next h
  have hbn : b < m.next := h.dom b pl hpl
  obtain ⟨hl1, hl2⟩ := takeLive_spec hold
  obtain ⟨hth, hfo⟩ := Mem.ownsAll_spec hown
  obtain ⟨hszp, hcr, e0, n0, hsh0, hn0⟩ := h.cells b pl hpl hk
  have hmul : (len + n) * size = len * size + n * size := Nat.add_mul ..
  have hnl' : new'.length = n * size := by rw [← hnew.length, hnl]
  have hblk : ∀ b', ((m.setBlk b {}).alloc { kind := 1, sz := size, cs := (old ++ new).map some }).blk b' = if m.next = b' then { kind := 1, sz := size, cs := (old ++ new).map some, stamp := m.tick + 1 } else if b = b' then { stamp := m.tick } else m.blk b' := by
    intro b'
    rw [Mem.blk_alloc, Mem.blk_setBlk]
    rfl
  have hold' : ∀ b', b' ≠ m.next → (((m.setBlk b {}).alloc { kind := 1, sz := size, cs := (old ++ new).map some }).blk b').kind ≠ 0 → b' ≠ b ∧ ((m.setBlk b {}).alloc { kind := 1, sz := size, cs := (old ++ new).map some }).blk b' = m.blk b' := by
    intro b' hb' hk'
    rw [hblk, if_neg (Ne.symm hb')] at hk' ⊢
    by_cases hbb : b = b'
    · rw [if_pos hbb] at hk'; exact absurd rfl hk'
    · rw [if_neg hbb]; exact ⟨Ne.symm hbb, rfl⟩
  generalize hM : (m.setBlk b {}).alloc { kind := 1, sz := size, cs := (old ++ new).map some } = M at hblk hold' ⊢
  have hMn : M.next = m.next + 1 := by rw [← hM]; rfl
  have hMh : M.hid = m.hid := by rw [← hM]; rfl
  have hMf : M.floor = m.floor := by rw [← hM]; rfl
  have hMo : M.opn = m.opn := by rw [← hM]; rfl
  have hMb : M.base = m.base := by rw [← hM]; rfl
  have hMm : M.home = m.home := by rw [← hM]; rfl
  have hown' : ∀ b', M.ownsObj b' = m.ownsObj b' := fun b' => by unfold Mem.ownsObj; rw [hMh, hMm]
  have hnew1 : M.blk m.next = { kind := 1, sz := size, cs := (old ++ new).map some, stamp := m.tick + 1 } := by rw [hblk, if_pos rfl]
  have hcase : ∀ b' p', ρ.put m.next ⟨pl.c, pl.d + o, pl.room - o, size⟩ b' = some p' → (b' = m.next ∧ p' = ⟨pl.c, pl.d + o, pl.room - o, size⟩) ∨ (b' ≠ m.next ∧ ρ b' = some p') := by
    intro b' p' hp'
    unfold Ren.put at hp'
    split at hp'
    · rename_i e; exact .inl ⟨e, (Option.some.inj hp').symm⟩
    · rename_i e; exact .inr ⟨e, hp'⟩
  have hokR : ∀ x, m.okR b (o + x) := fun x => ⟨hk, touches_covers hth _, fun hlt => by
    have h1 := List.all_eq_true.1 hlive
    obtain ⟨y, hy⟩ : ∃ y, ((m.blk b).cs.drop o)[x]? = some y := ⟨_, List.getElem?_eq_getElem (by simp; omega)⟩
    have h2 := h1 y (List.mem_of_getElem? hy)
    obtain ⟨v, rfl⟩ := Option.isSome_iff_exists.1 h2
    rw [List.getElem?_drop] at hy
    exact ⟨v, hy⟩⟩
  have hokW : ∀ x, m.okW b (o + x) := fun x => ⟨hokR x, hfo.imp id fun y => coversAll_covers y _⟩
  have hcl := Ren.le_put hn ⟨pl.c, pl.d + o, pl.room - o, size⟩
  refine ⟨hcl, ⟨fun b' p' hp' => ?_, fun b' p' hp' hk' => ?_, fun b' p' x v hp' hc => ?_, fun b' p' x hp' hx hk' hbb => ?_, fun b' p' hp' hk' ho' => ?_, fun b' p' hp' hk' ho' => ?_, fun b₁ b₂ p₁ p₂ hne h₁ h₂ k₁ k₂ hc => ?_, fun b' p' hp' => ?_, fun b' p' hp' hk' hps => ?_⟩, ⟨?_, ?_, ?_⟩, put_old⟩
  · rcases hcase _ _ hp' with ⟨rfl, rfl⟩ | ⟨_, hq⟩
    · omega
    · have := h.dom _ _ hq; omega
  · rcases hcase _ _ hp' with ⟨rfl, rfl⟩ | ⟨hb', hq⟩
    · rw [hnew1]
      refine ⟨rfl, ?_, e0, n0, by rw [hw.shape]; exact hsh0, ?_⟩
      · simp only [List.length_map, List.length_append]; omega
      · show pl.d + o + (pl.room - o) ≤ n0; omega
    · obtain ⟨_, e⟩ := hold' b' hb' (by omega)
      rw [e] at hk' ⊢
      obtain ⟨g1, g2, e1, n1, g3, g4⟩ := h.cells _ _ hq hk'
      exact ⟨g1, g2, e1, n1, by rw [hw.shape]; exact g3, g4⟩
  · rcases hcase _ _ hp' with ⟨rfl, rfl⟩ | ⟨hb', hq⟩
    · have hx : (old ++ new)[x]? = some v := by
        unfold Mem.cell at hc
        rw [hnew1] at hc
        split at hc
        · simp only [List.getElem?_map] at hc
          cases hg : (old ++ new)[x]? with
          | none => simp [hg] at hc
          | some u => simp [hg] at hc; rw [hc]
        · cases hc
      show ∃ v', w'.cell? ⟨pl.c, pl.d + o + x, none⟩ = some v' ∧ _
      rw [hw.cell]
      rcases Nat.lt_or_ge x (len * size) with hlt | hge
      · rw [List.getElem?_append_left (by omega)] at hx
        obtain ⟨u, hu, hu2⟩ := hl2 x hlt
        rw [hu2] at hx; cases hx
        rw [List.getElem?_drop] at hu
        have hcell : m.cell b (o + x) = some v := by unfold Mem.cell; rw [if_pos ⟨hk, touches_covers hth _⟩, hu]; rfl
        obtain ⟨v', hv1, hv2⟩ := h.vals b pl _ v hpl hcell
        refine ⟨v', ?_, hv2.ren hcl⟩
        rw [if_neg (by omega), show pl.d + o + x = pl.d + (o + x) by omega]
        exact hv1
      · rw [List.getElem?_append_right (by omega)] at hx
        obtain ⟨v', hv1, hv2⟩ := hnew.get hx
        have : x - old.length < new'.length := by
          rcases Nat.lt_or_ge (x - old.length) new'.length with h1 | h1
          · exact h1
          · rw [List.getElem?_eq_none h1] at hv1; cases hv1
        refine ⟨v', ?_, hv2.ren hcl⟩
        rw [if_pos ⟨by omega, by omega⟩, show pl.d + o + x - (pl.d + o + len * size) = x - old.length by omega]
        exact hv1
    · have hkM := (Mem.okR_of_cell hc).1
      obtain ⟨hbb, e⟩ := hold' b' hb' (by omega)
      have hc' : m.cell b' x = some v := by unfold Mem.cell at hc ⊢; rw [e, hMh] at hc; exact hc
      obtain ⟨v', hv1, hv2⟩ := h.vals b' p' x v hq hc'
      refine ⟨v', ?_, hv2.ren hcl⟩
      have hk' := (Mem.okR_of_cell hc').1
      have hr' := room_of_cell h hq hc'
      by_cases hcc : p'.c = pl.c
      · have := (h.sep b b' pl p' (Ne.symm hbb) hpl hq (by omega) (by omega) hcc.symm).2.2
        rw [hcc, hw.cell, if_neg (by omega), ← hcc]
        exact hv1
      · rw [hw.cell_other hcc]; exact hv1
  · rw [hw.froz]
    rcases hcase _ _ hp' with ⟨rfl, rfl⟩ | ⟨hb', hq⟩
    · have := h.thaw b pl (o + x) hpl (by simp only at hx; omega) hk (Mem.ownsAll_base hown)
      rw [← Nat.add_assoc] at this
      exact this
    · obtain ⟨_, e⟩ := hold' b' hb' (by omega)
      rw [e] at hk'; rw [hMb] at hbb
      exact h.thaw b' p' x hq hx hk' hbb
  · rcases hcase _ _ hp' with ⟨rfl, rfl⟩ | ⟨hb', hq⟩
    · rw [hnew1] at hk'; simp at hk'
    · obtain ⟨hbb, e⟩ := hold' b' hb' (by omega)
      rw [e] at hk' ⊢
      rw [hown'] at ho'
      obtain ⟨es', g1, g2⟩ := h.maps _ _ hq hk' ho'
      have hne : p'.c ≠ pl.c := fun hcc => by have := (h.sep b b' pl p' (Ne.symm hbb) hpl hq (by omega) (by omega) hcc.symm).2.1; omega
      exact ⟨es', by rw [hw.others _ hne]; exact g1, g2.mono fun _ _ x => ⟨x.1.ren hcl, x.2.1.ren hcl, x.2.2⟩⟩
  · rcases hcase _ _ hp' with ⟨rfl, rfl⟩ | ⟨hb', hq⟩
    · rw [hnew1] at hk'; simp at hk'
    · obtain ⟨hbb, e⟩ := hold' b' hb' (by omega)
      rw [e] at hk' ⊢
      rw [hown'] at ho'
      obtain ⟨g1, g2⟩ := h.iters _ _ hq hk' ho'
      have hne : p'.c ≠ pl.c := fun hcc => by have := (h.sep b b' pl p' (Ne.symm hbb) hpl hq (by omega) (by omega) hcc.symm).2.1; omega
      exact ⟨g1, by rw [hw.others _ hne]; exact g2⟩
  · rcases hcase _ _ h₁ with ⟨rfl, rfl⟩ | ⟨hb₁, hq₁⟩ <;> rcases hcase _ _ h₂ with ⟨rfl, rfl⟩ | ⟨hb₂, hq₂⟩
    · exact absurd rfl hne
    · obtain ⟨hbb, e⟩ := hold' b₂ hb₂ k₂
      rw [e] at k₂ ⊢
      have := h.sep b b₂ pl p₂ (Ne.symm hbb) hpl hq₂ (by omega) k₂ hc
      rw [hnew1]
      refine ⟨rfl, this.2.1, ?_⟩
      show pl.room - o = 0 ∨ p₂.room = 0 ∨ pl.d + o + (pl.room - o) ≤ p₂.d ∨ p₂.d + p₂.room ≤ pl.d + o
      omega
    · obtain ⟨hbb, e⟩ := hold' b₁ hb₁ k₁
      rw [e] at k₁ ⊢
      have := h.sep b b₁ pl p₁ (Ne.symm hbb) hpl hq₁ (by omega) k₁ hc.symm
      rw [hnew1]
      refine ⟨this.2.1, rfl, ?_⟩
      show p₁.room = 0 ∨ pl.room - o = 0 ∨ p₁.d + p₁.room ≤ pl.d + o ∨ pl.d + o + (pl.room - o) ≤ p₁.d
      omega
    · obtain ⟨_, e₁⟩ := hold' b₁ hb₁ k₁
      obtain ⟨_, e₂⟩ := hold' b₂ hb₂ k₂
      rw [e₁] at k₁ ⊢; rw [e₂] at k₂ ⊢
      exact h.sep b₁ b₂ p₁ p₂ hne hq₁ hq₂ k₁ k₂ hc
  · rw [hw.size]
    rcases hcase _ _ hp' with ⟨rfl, rfl⟩ | ⟨hb', hq⟩
    · exact h.inw b pl hpl
    · exact h.inw _ _ hq
  · rcases hcase _ _ hp' with ⟨rfl, rfl⟩ | ⟨hb', hq⟩
    · rw [hnew1] at hps; simp at hps
    · obtain ⟨_, e⟩ := hold' b' hb' (by omega)
      rw [e] at hk' hps
      exact h.vars b' p' hq hk' hps
  · rintro c x ⟨b', p', g1, g2, g3, g4, g5⟩
    rcases hcase _ _ g1 with ⟨rfl, rfl⟩ | ⟨hb', hq⟩
    · simp only at g3 g4
      refine .inl ⟨b, pl, hpl, g2, by omega, by omega, ?_⟩
      rw [show x - pl.d = o + (x - (pl.d + o)) by omega]
      exact hokR _
    · obtain ⟨_, e⟩ := hold' b' hb' (by have := g5.1; omega)
      exact .inl ⟨b', p', hq, g2, g3, g4, by unfold Mem.okR at g5 ⊢; rw [e, hMh] at g5; exact g5⟩
  · rintro c x ⟨b', p', g1, g2, g3, g4, g5⟩
    rcases hcase _ _ g1 with ⟨rfl, rfl⟩ | ⟨hb', hq⟩
    · simp only at g3 g4
      refine .inl ⟨b, pl, hpl, g2, by omega, by omega, ?_⟩
      rw [show x - pl.d = o + (x - (pl.d + o)) by omega]
      exact hokW _
    · obtain ⟨_, e⟩ := hold' b' hb' (by have := g5.1.1; omega)
      exact .inl ⟨b', p', hq, g2, g3, g4, by unfold Mem.okW Mem.okR at g5 ⊢; rw [e, hMh, hMf, hMo] at g5; exact g5⟩
  · rintro c ⟨b', p', g1, g2, g3, g4⟩
    rcases hcase _ _ g1 with ⟨rfl, rfl⟩ | ⟨hb', hq⟩
    · rw [hnew1] at g3; simp at g3
    · obtain ⟨_, e⟩ := hold' b' hb' (by omega)
      exact .inl ⟨b', p', hq, g2, by rwa [e] at g3, by rwa [hown'] at g4⟩
end
end Go.AM
/-
  OPERATIONS, ON: append, copy, clear, wholly; conversions; strings gone through.
-/
set_option linter.unusedVariables false
set_option linter.unusedSimpArgs false
namespace Go.AM
open Go

section
variable {P : Program} {ρ : Ren} {m : Mem} {w : World} {N : Nat}
theorem okS_askRoom {n : Nat} {R : Perm} {Q : Unit → World → Prop} (hq : Q () w) : okS P R N (askRoom n) Q w := by
  unfold askRoom
  split
  · exact ⟨trivial, hq⟩
  · exact hq
theorem Left.mono_w {ρ' : Ren} {m' : Mem} {w₀ w' : World} (h : Left ρ m w ρ' m' w') (hs : w₀.heap.size = w.heap.size) : Left ρ m w₀ ρ' m' w' := ⟨h.le, h.sim, by rw [hs]; exact h.within, h.old⟩
theorem sim_drawn (h : Sim ρ m w) (d : Nat) : Sim ρ m { w with drawn := d } := h.keeps (Keeps.at _ _ _)
theorem zeroCells_plain {z : Value} (hz : z.cells.toList.all plain1 = true) (n : Nat) : (Builtin.zeroCells z.cells n).toList.all plain1 = true := by
  unfold Builtin.zeroCells
  rw [List.all_eq_true]
  intro x hx
  simp only [Array.toList_map, List.mem_map] at hx
  obtain ⟨i, _, rfl⟩ := hx
  exact getBang_plain1 hz _
theorem zeroCells_size (z : Array Value) (n : Nat) : (Builtin.zeroCells z n).size = n * z.size := by simp [Builtin.zeroCells]
theorem cut_append (need old : Nat) (e : TypeId) (t : Nat) (h : need ≤ 2 ^ 46) : need ≤ (Question.appendCap need old e).cut t ∧ (Question.appendCap need old e).cut t < INF := by
  simp only [Question.cut]
  have : t % (2 ^ 63 - need) < 2 ^ 63 - need := Nat.mod_lt _ (by omega)
  unfold INF
  omega
theorem shape_cell {w : World} {c e n x : Nat} (h : w.shape? c = some (e, n)) (hx : x < n) : (w.cell? ⟨c, x, none⟩).isSome = true := by
  unfold World.shape? at h
  unfold World.cell?
  split at h
  · rename_i C e' f hh
    simp only [Option.some.injEq, Prod.mk.injEq] at h
    simp only [hh]
    have : x < C.size := by omega
    simp [this]
  · cases h
theorem ownsAll_okW {b o : Nat} (hk : (m.blk b).kind = 1) (hown : m.ownsAll b = true) (hlive : ((m.blk b).cs.drop o).all (·.isSome) = true) : ∀ x, m.okW b (o + x) := by
  obtain ⟨hth, hfo⟩ := Mem.ownsAll_spec hown
  refine fun x => ⟨⟨hk, touches_covers hth _, fun hlt => ?_⟩, hfo.imp id fun y => coversAll_covers y _⟩
  have h1 := List.all_eq_true.1 hlive
  obtain ⟨y, hy⟩ : ∃ y, ((m.blk b).cs.drop o)[x]? = some y := ⟨_, List.getElem?_eq_getElem (by simp; omega)⟩
  have h2 := h1 y (List.mem_of_getElem? hy)
  obtain ⟨v, rfl⟩ := Option.isSome_iff_exists.1 h2
  rw [List.getElem?_drop] at hy
  exact ⟨v, hy⟩
/-- The same slice in the model: its base and its room. -/
def BaseRel (ρ : Ren) (len cap : Nat) (base base' : Option Addr) (cap' : Nat) : Prop :=
  match base with
  | some a => ∃ p, ρ a.block = some p ∧ a.spot = none ∧ base' = some ⟨p.c, p.d + a.off, none⟩ ∧ (if cap = INF then len ≤ cap' ∧ a.off + cap' * p.sz ≤ p.room else cap' = cap)
  | none => base' = none ∧ cap' = cap
theorem BaseRel.of {len cap : Nat} {base : Option Addr} {s' : Value} (h : VRel ρ (.slice base len cap) s') : ∃ base' cap', s' = .slice base' len cap' ∧ BaseRel ρ len cap base base' cap' := by
  cases base with
  | none => obtain rfl := (vrel_same (by rfl)).1 h; exact ⟨none, cap, rfl, rfl, rfl⟩
  | some a => obtain ⟨p, cap', h1, h2, h3, h4⟩ := vrel_slice.1 h; exact ⟨_, cap', h3, p, h1, h2, rfl, h4⟩
theorem BaseRel.exact {len cap cap' : Nat} {base base' : Option Addr} (h : BaseRel ρ len cap base base' cap') (hc : cap ≠ INF) : cap' = cap := by
  cases base with
  | none => exact h.2
  | some a => obtain ⟨p, _, _, _, h4⟩ := h; rw [if_neg hc] at h4; exact h4
theorem okS_choose_cap {n old : Nat} {e : TypeId} {R : Perm} {Q : Nat → World → Prop} (hn : n ≤ 2 ^ 46) (hq : ∀ nc, n ≤ nc → nc < INF → Q nc { w with drawn := w.drawn + 1 }) : okS P R N (choose (.appendCap n old e)) Q w := by
  obtain ⟨hc1, hc2⟩ := cut_append n old e (w.tape w.drawn (.appendCap n old e)) hn
  exact hq _ hc1 hc2
set_option maxHeartbeats 1000000 in
theorem appendA_sound (h : Sim ρ m w) {ats : Array TypeId} {ty : TypeId} {s s' x x' v : Value} {m' : Mem} (hs : VRel ρ s s') (hx : VRel ρ x x') (ha : appendA P ats s x m = some (v, m'))
    {Q : Value → World → Prop} (hq : ∀ v' w' ρ', Left ρ m w ρ' m' w' → VRel ρ' v v' → Q v' w') : okS P (permOf ρ m) N (Builtin.append_ ats ty #[s', x']) Q w := by
  unfold appendA at ha
  split at ha
  · rename_i e xt base len cap hst hxt
    obtain ⟨st, hst0, hst⟩ := Option.bind_eq_some_iff.1 hst
    split at ha
    · rename_i size n xe hsize hlen hxu
      split at ha
      · cases ha
      · rename_i new hnew
        split at ha
        · cases ha
        · rename_i hgrow
          have hgrow' : growOk P e (len + n) = true := by
            cases hg : growOk P e (len + n) with
            | false => exact absurd (.inl hg) hgrow
            | true => rfl
          have hnl : new.length = n * size := Decidable.byContradiction fun hg => hgrow (.inr (.inl hg))
          have honeA : ∀ u ∈ new, u.oneCell' = true := by
            cases hg : new.all (·.oneCell') with
            | false => exact absurd (.inr (.inr hg)) hgrow
            | true => exact fun u hu => List.all_eq_true.1 hg u hu
          clear hgrow
          unfold growOk at hgrow'
          split at hgrow'
          case h_2 => cases hgrow'
          rename_i i hi
          simp only [Bool.and_eq_true, decide_eq_true_eq] at hgrow'
          obtain ⟨⟨⟨hb0, hb1⟩, hb2⟩, hz⟩ := hgrow'
          obtain ⟨z, hz⟩ := Option.isSome_iff_exists.1 hz
          obtain ⟨hzp, hzs⟩ := zeroT_plain hz
          have hzs' : z.cells.size = size := by rw [hsize] at hzs; exact (Option.some.inj hzs).symm
          -- the slice that is appended to, in the model
          obtain ⟨base', cap', hs', hcap⟩ := BaseRel.of hs
          subst hs'
          have hmul2 : (len + n) * size = len * size + n * size := Nat.add_mul ..
          unfold Builtin.append_
          simp only [hst0, hxt, List.getElem?_toArray, List.getElem?_cons_zero, List.getElem?_cons_succ]
          rw [okS_bind]
          refine okS_underlying hst ?_
          simp only []
          rw [okS_bind]
          refine okS_sizeOf hsize ?_
          rw [okS_bind]
          refine okS_underlying hxu ?_
          simp only [pure_bind, Bool.false_eq_true, if_false, Bool.not_false, if_true, false_or]
          rw [okS_bind]
          refine lenA_sound hx hlen ?_
          by_cases hin : len + n ≤ cap'
          · rw [if_pos hin, okS_bind]
            refine firstA_sound h hx hnew fun new' hnew' => ?_
            by_cases hc : cap = INF
            · rw [if_pos hc] at ha
              split at ha
              · rename_i b o
                obtain ⟨pl, hpl, _, rfl, hcap⟩ := hcap
                rw [if_pos hc] at hcap
                simp only [addr_add] at hpl hcap ⊢
                rw [okS_bind]
                simp only [] at ha
                split at ha
                · rename_i hk
                  simp only [Bool.and_eq_true, beq_iff_eq] at hk
                  obtain ⟨⟨⟨hk1, hk2⟩, hk3⟩, hk4⟩ := hk
                  split at ha
                  · rename_i old hold
                    simp only [Option.some.injEq, Prod.mk.injEq] at ha
                    obtain ⟨rfl, rfl⟩ := ha
                    obtain ⟨hpsz, hcr, e0, n0, hsh0, hn0⟩ := h.cells b pl hpl hk1
                    have hpsz' : pl.sz = size := by rw [hpsz, hk2]
                    rw [hpsz'] at hcap
                    have hmul : (len + n) * size ≤ cap' * size := Nat.mul_le_mul_right _ hin
                    have hokW := ownsAll_okW hk1 hk3 hk4
                    have hnl' : new'.length = n * size := by rw [← hnew'.length, hnl]
                    refine okS_storeCells new' 0 w (fun u hu => ?_) (fun j hj => ?_) (fun w' hw => ?_)
                    · obtain ⟨i, hi⟩ := List.mem_iff_getElem?.1 hu
                      obtain ⟨u', hu', hr⟩ := hnew'.get' hi
                      exact hr.oneCell (honeA _ (List.mem_of_getElem? hu'))
                    · have e2 : pl.d + o + len * size + 0 + j = pl.d + (o + (len * size + j)) := by omega
                      rw [e2]
                      have hx1 : o + (len * size + j) < pl.room := by omega
                      exact ⟨shape_cell hsh0 (by omega), h.thaw b pl _ hpl hx1 hk1 (Mem.ownsAll_base hk3), wr_of_okW hpl hx1 (hokW _)⟩
                    · rw [Nat.add_zero] at hw
                      have hL := append_inplace h hpl hk1 hk2 hk3 hk4 hold hnew' hnl (n := n) (by omega) hw
                      refine hq _ _ _ hL (vrel_slice.2 ⟨_, cap', Ren.put_same .., rfl, rfl, ?_⟩)
                      rw [if_pos rfl]
                      refine ⟨hin, ?_⟩
                      show 0 + cap' * size ≤ pl.room - o
                      omega
                  · cases ha
                · cases ha
              · cases ha
            · rw [if_neg hc] at ha
              obtain rfl := hcap.exact hc
              rw [if_pos hin] at ha
              cases base with
              | none =>
                obtain ⟨rfl, _⟩ := hcap
                simp only [Option.some.injEq, Prod.mk.injEq] at ha
                obtain ⟨rfl, rfl⟩ := ha
                exact hq _ _ _ (Left.refl h) ((vrel_same (by rfl)).2 rfl)
              | some a =>
                obtain ⟨pl, hpl, hspot, rfl, hcap⟩ := hcap
                obtain ⟨b, o, sp⟩ := a
                simp only at hspot hpl hcap
                subst hspot
                simp only [addr_add]
                rw [okS_bind]
                obtain ⟨m2, hm2, ha2⟩ := Option.map_eq_some_iff.1 ha
                simp only [Prod.mk.injEq] at ha2
                obtain ⟨rfl, rfl⟩ := ha2
                have := stores_okS (P := P) (N := N) h hpl hm2 hnew' (Q := fun _ w' => Q (.slice (some ⟨pl.c, pl.d + o, none⟩) (len + n) cap') w') (fun w' hL _ => hq _ _ _ hL (vrel_slice.2 ⟨pl, cap', hpl, rfl, rfl, by rw [if_neg hc]⟩))
                rw [show pl.d + o + len * size = pl.d + (o + len * size) by omega]
                exact this
          · -- a new array
            have hlt : cap' < len + n := by omega
            rw [if_neg hin, okS_bind]
            refine okS_typeInfo hi ?_
            rw [if_neg (by rintro ⟨_, h2⟩; omega), okS_bind]
            refine okS_typeInfo hi ?_
            have hfit := growslice_fits (need := len + n) (old := cap') (bytes := i.bytes) hlt (by omega)
            rw [if_neg (by omega), okS_bind]
            refine okS_choose_cap hb2 fun nc hn1 hn2 => ?_
            generalize hw₁ : ({ w with drawn := w.drawn + 1 } : World) = w₁
            have h₁ : Sim ρ m w₁ := by rw [← hw₁]; exact sim_drawn h _
            have hsz1 : w₁.heap.size = w.heap.size := by rw [← hw₁]
            rw [okS_bind]
            refine okS_typeInfo hi ?_
            rw [okS_bind]
            refine okS_askRoom ?_
            rw [okS_bind]
            obtain ⟨old, hold, hol, hfin⟩ : ∃ old, firstA m size len (.slice base len cap) = some old ∧ old.length = len * size ∧
                ∀ (C : Array Value), (old ++ new).length ≤ C.size → nc * size ≤ C.size → (∀ (i : Nat) v, (old ++ new)[i]? = some v → ∃ v', C[i]? = some v' ∧ VRel ρ v v') → Q (.slice (some ⟨w₁.heap.size, 0, none⟩) (len + n) nc) { w₁ with heap := w₁.heap.push (.cells C e) } := by
              by_cases hc : cap = INF
              · rw [if_pos hc] at ha
                split at ha
                · rename_i b o
                  obtain ⟨pl, hpl, _, _, _⟩ := hcap
                  simp only [] at ha
                  split at ha
                  · rename_i hk
                    simp only [Bool.and_eq_true, beq_iff_eq] at hk
                    obtain ⟨⟨⟨hk1, hk2⟩, hk3⟩, hk4⟩ := hk
                    split at ha
                    · rename_i old hold
                      simp only [Option.some.injEq, Prod.mk.injEq] at ha
                      obtain ⟨rfl, rfl⟩ := ha
                      refine ⟨old, ?_, (takeLive_spec hold).1, fun C hC1 hC2 hC3 => ?_⟩
                      · show m.loads b o (len * size) = some old
                        unfold Mem.loads
                        simp only []
                        rw [if_pos (by rw [hk1, touches_meets (Mem.ownsAll_spec hk3).1]; rfl)]
                        exact hold
                      · have hL := (h₁.kill b).newCells (sz := size) (ps := 0) (vs := old ++ new) (C := C) e hC1 hC3
                        have hL' : Left ρ m w _ _ _ := ⟨hL.le, hL.sim, by rw [← hsz1]; exact (within_kill b _).trans hL.within, hL.old⟩
                        refine hq _ _ _ hL' (vrel_slice.2 ⟨_, nc, Ren.put_same .., rfl, congrArg (fun k => Value.slice (some ⟨w₁.heap.size, k, none⟩) (len + n) nc) (Nat.zero_add 0).symm, ?_⟩)
                        rw [if_pos rfl]
                        exact ⟨hn1, by simpa using hC2⟩
                    · cases ha
                  · cases ha
                · cases ha
              · rw [if_neg hc] at ha
                obtain rfl := hcap.exact hc
                rw [if_neg (by omega)] at ha
                split at ha
                · rename_i old hold
                  split at ha
                  · rename_i hol
                    simp only [Option.some.injEq, Prod.mk.injEq] at ha
                    obtain ⟨rfl, rfl⟩ := ha
                    refine ⟨old, hold, hol, fun C hC1 hC2 hC3 => ?_⟩
                    have hL := (h₁.newCells (sz := size) (ps := 0) (vs := old ++ new) (C := C) e hC1 hC3)
                    have hL' : Left ρ m w _ _ _ := ⟨hL.le, hL.sim, by rw [← hsz1]; exact hL.within, hL.old⟩
                    refine hq _ _ _ hL' (vrel_slice.2 ⟨_, nc, Ren.put_same .., rfl, congrArg (fun k => Value.slice (some ⟨w₁.heap.size, k, none⟩) (len + n) nc) (Nat.zero_add 0).symm, ?_⟩)
                    rw [if_pos rfl]
                    exact ⟨hn1, by simpa using hC2⟩
                  · cases ha
                · cases ha
            refine firstA_sound h₁ hs hold fun old' hold' => ?_
            rw [okS_bind]
            refine firstA_sound h₁ hx hnew fun new' hnew' => ?_
            rw [okS_bind]
            refine okS_zeroValue hz ?_
            rw [okS_bind]
            refine okS_newRow ?_
            have hzl := zeroCells_size z.cells (nc - (len + n))
            have hl1 := hold'.length
            have hl2 := hnew'.length
            have hnc : nc * size = (len + n) * size + (nc - (len + n)) * size := by rw [← Nat.add_mul]; congr 1; omega
            refine hfin _ ?_ ?_ fun i v hi => ?_
            · simp only [Array.size_append, List.size_toArray, List.length_append]; omega
            · simp only [Array.size_append, List.size_toArray, hzl, hzs']; omega
            · obtain ⟨v', h1, h2⟩ := (hold'.append hnew').get hi
              refine ⟨v', ?_, h2⟩
              have hlt : i < (old' ++ new').length := by
                rcases Nat.lt_or_ge i (old' ++ new').length with g | g
                · exact g
                · rw [List.getElem?_eq_none g] at h1; cases h1
              have e0 : old'.toArray ++ new'.toArray = (old' ++ new').toArray := by simp
              rw [e0, Array.getElem?_append_left (by simpa using hlt)]
              simpa using h1
    · cases ha
  · cases ha
end
end Go.AM
