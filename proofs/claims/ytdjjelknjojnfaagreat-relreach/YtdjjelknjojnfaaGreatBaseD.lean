/-
  Slices that a call makes and appends to, of whatever one-cell values; they lie apart from tables, finders and cells.
  Maps from numbers to numbers: what is looked up, laid and struck, as a function of the key.
  An order in memory, and what the plain calls of package order do to it.
  What New, All and Copy of package order make.
  An order that lies at the head of a greater block: how many variables there are; a copy of it.
  Finders and acts of the cache driven to their ends.
  Stores of nodes without a program: what is a node, which function it is, that two nodes are one just if their functions are; a node more.
  A store in memory: its cells, its words, its names, its table and its cache; what the calls that only look tell.
  What Level, Low, High, Order and All of a store tell.
  A word more in a store: its name, its handle.
  What a store keeps in its cache: asked for, laid.
  A node's word is looked for in a store's table, and laid there if there is room.
  What Mk of a store tells, and what it makes.
  A statement whose order Go leaves open, walked operation by operation: what each operation leaves behind, whatever came before it beyond what it waits for.
  A new store.
  A store by its face alone: what each call tells, what it makes.
  What an argument that is a slice of integers gives the walks: empty, or its numbers cell by cell.
  A store told whether to keep results in its cache (Cached).
-/
import Derived.Test.YtdjjelknjojnfaaGreatBaseA
import Derived.Deep.AppendLies
import Derived.Deep.AppendSrc
import Derived.Deep.Upon
import Derived.WalkKit
import Derived.Handy
import Derived.MapKept
import Derived.Carry
import Derived.Deep.OwnRows
import Derived.Deep.LoopGhost
import Derived.Deep.RegionWith
import Derived.BigRegion
import Derived.Laws.CopyOwn
import Derived.Laws.OwnMore
import Derived.OwnWalk
import Derived.Test.YtdjjelknjojnfaaGreatBaseB
import Derived.Test.YtdjjelknjojnfaaGreatBaseC
import Derived.Deep.RegionLaw
import Derived.Deep.QuietTactic
import Derived.BigQuiet
import Derived.Orders
import Derived.RegionTactic
import Derived.Test.YtdjjelknjojnfaaGreatProg
import Derived.Test.YtdjjelknjojnfaaGreatRows
import Derived.ProofKit
import Derived.OpenShut
namespace Go.Proofs.YtdjjelknjojnfaaGreat
open Go Go.RowKit

def rowL (n : Nat) (V : Nat → Value) : List Value := (List.range n).map V
theorem rowL_length (n : Nat) (V : Nat → Value) : (rowL n V).length = n := by simp [rowL]
theorem rowL_succ (n : Nat) (V : Nat → Value) : rowL (n + 1) V = rowL n V ++ [V n] := by simp [rowL, List.range_succ]
theorem rowL_get (n : Nat) (V : Nat → Value) {i : Nat} (hi : i < n) : (rowL n V)[i]? = some (V i) := by simp [rowL, hi]
theorem rowL_congr {n : Nat} {V U : Nat → Value} (h : ∀ i, i < n → V i = U i) : rowL n V = rowL n U := by
  unfold rowL
  apply List.map_congr_left
  intro i hi
  exact h i (List.mem_range.1 hi)

/-- The slice owns its values: empty and nil, or the head of a block of the call's own. -/
def OwnR (e : TypeId) (w : World) (B : Nat) (ad : Option Addr) (n cap : Nat) (V : Nat → Value) : Prop := w.ownsRow B e 1 (.slice ad n cap) n (rowL n V)
/-- The block of a slice. -/
def At (ad : Option Addr) : Nat → Prop := fun k => ∃ a, ad = some a ∧ a.block = k

section
variable {e : TypeId} {w w' : World} {B n cap : Nat} {ad : Option Addr} {V U : Nat → Value}
theorem OwnR.form (h : OwnR e w B ad n cap V) (hn : 0 < n) : ∃ g, ad = some ⟨g, 0, none⟩ := by
  obtain ⟨g, cap', hv, hb, hlt⟩ := World.ownsRow.form h hn
  exact ⟨g, by injection hv⟩
theorem OwnR.cell {g : Nat} (h : OwnR e w B (some ⟨g, 0, none⟩) n cap V) {i : Nat} (hi : i < n) : w.cell? ⟨g, i, none⟩ = some (V i) := by
  rw [World.ownsRow.cellAt h i (by omega)]
  exact rowL_get n V hi
theorem OwnR.frozen {g : Nat} (h : OwnR e w B (some ⟨g, 0, none⟩) n cap V) (j : Nat) : w.frozen? ⟨g, j, none⟩ = false := World.ownsRow.frozenAt h j
theorem OwnR.nil (e : TypeId) (w : World) (B : Nat) (V : Nat → Value) : OwnR e w B none 0 0 V := World.ownsRow_nil w B e 1
theorem OwnR.block (h : OwnR e w B ad n cap V) : ∀ k, At ad k → B ≤ k ∧ k < w.heap.size := by
  rintro k ⟨a, rfl, rfl⟩
  exact World.ownsRow.lt h a.block rfl
theorem OwnR.kind (h : OwnR e w B ad n cap V) : ∀ k, At ad k → ∃ cur, w.heap[k]? = some (.cells cur e (0, 0)) := by
  rintro k ⟨a, rfl, rfl⟩
  rcases h.2 with ⟨h2, _⟩ | ⟨g, cap', cur, hv, hb, hh, _⟩
  · cases h2
  · injection hv with hv
    injection hv with hv
    subst hv
    exact ⟨cur, hh⟩
theorem OwnR.kept (h : OwnR e w B ad n cap V) (k : ∀ b, At ad b → w'.heap[b]? = w.heap[b]?) : OwnR e w' B ad n cap V := by
  obtain ⟨h1, h2⟩ := h
  refine ⟨h1, ?_⟩
  rcases h2 with h2 | ⟨g, cap', cur, hv, hb, hh, r⟩
  · exact .inl h2
  · have had : ad = some ⟨g, 0, none⟩ := by injection hv
    exact .inr ⟨g, cap', cur, hv, hb, (k g ⟨_, had, rfl⟩).trans hh, r⟩
theorem OwnR.congr (h : OwnR e w B ad n cap V) (k : ∀ i, i < n → V i = U i) : OwnR e w B ad n cap U := by
  unfold OwnR at *
  rw [← rowL_congr k]
  exact h
theorem OwnR.below (h : OwnR e w B ad n cap V) (k : Below w.heap.size w w') : OwnR e w' B ad n cap V := h.kept fun b hb => k.block _ (h.block b hb).2
theorem OwnR.new (h : OwnR e w B ad n cap V) (o : Obj) : OwnR e (w.alloc o) B ad n cap V := h.kept fun b hb => Below.heap_alloc _ _ _ (h.block b hb).2
theorem OwnR.drew (h : OwnR e w B ad n cap V) : OwnR e w.drew B ad n cap V := h
/-- A block of another kind is another block. -/
theorem OwnR.apart (h : OwnR e w B ad n cap V) {k : Nat} {cur : Array Value} {e' : TypeId} (hk : w.heap[k]? = some (.cells cur e' (0, 0))) (he : e' ≠ e) : ¬ At ad k := by
  intro hA
  obtain ⟨cur', h'⟩ := h.kind k hA
  rw [hk] at h'
  simp at h'
  exact he h'.2
/-- One value turned. -/
theorem OwnR.set {g : Nat} (h : OwnR e w B (some ⟨g, 0, none⟩) n cap V) {k : Nat} (v : Value) : OwnR e (w.setCell ⟨g, k, none⟩ v) B (some ⟨g, 0, none⟩) n cap (fun i => if i = k then v else V i) := by
  obtain ⟨h1, h2⟩ := h
  refine ⟨by rw [rowL_length]; omega, ?_⟩
  rcases h2 with ⟨h2, _⟩ | ⟨g', cap', cur, hv, hb, hh, q1, q2, q3, q4⟩
  · cases h2
  · injection hv with hv1 hv2 hv3
    injection hv1 with hv1
    injection hv1 with hv1
    subst hv1
    subst hv3
    refine .inr ⟨g, cap, cur.setIfInBounds k v, rfl, hb, by simp [World.setCell, Array.getElem?_modify, hh], q1, q2, by simp [q3], ?_⟩
    apply List.ext_getElem?
    intro j
    by_cases hj : j < n
    · rw [rowL_get n _ hj, List.getElem?_take, if_pos (by omega), Array.getElem?_toList]
      by_cases hjk : j = k
      · subst hjk
        rw [if_pos rfl, Array.getElem?_setIfInBounds_self_of_lt (by omega)]
      · rw [if_neg hjk, Array.getElem?_setIfInBounds_ne (by omega)]
        have : (cur.toList.take (n * 1))[j]? = (rowL n V)[j]? := by rw [q4]
        rw [rowL_get n _ hj, List.getElem?_take, if_pos (by omega), Array.getElem?_toList] at this
        exact this
    · rw [List.getElem?_eq_none (by rw [List.length_take]; omega), List.getElem?_eq_none (by rw [rowL_length]; omega)]
end

/-- One value more, as the walk meets it. -/
theorem append_row (t e : TypeId) (i : TypeInfo) (z : Value) (ht : Tryz.prog.underlying t = some (.slice e)) (hi : Tryz.prog.info? e = some i) (hz : i.zero = some z) (hsz : i.size = 1) (by' : Nat) (hby : i.bytes = by') (hb16 : by' ≤ 64) (hzc : z.cells.size = 1)
    {w : World} {B n cap : Nat} {ad : Option Addr} {V : Nat → Value} (hown : OwnR e w B ad n cap V) (blk : Nat) (x : Value) (hx1 : x.oneCell' = true) (hblk : w.heap[blk]? = some (.cells #[x] e (0, 0))) (hn : n ≤ 1000000) (hB : B ≤ w.heap.size)
    {ops : Array Oper} {rest : List Oper} {o : Oper} {a : Act} {Q : Exit → Act → World → Prop} (hgd : o.guard = none) (s y : Operand)
    (ho : o.op = .call { callee := .builtin .append, args := #[s, y], argTypes := #[t, t] }) (hs : a.eval s = .slice ad n cap) (hx : a.eval y = .slice (some ⟨blk, 0, none⟩) 1 1)
    (h : ∀ g cap' w', OwnR e w' B (some ⟨g, 0, none⟩) (n + 1) cap' (fun i => if i = n then x else V i) → Went (At ad) w w' → (At ad g ∨ g = w.heap.size) → wpList Tryz.prog ops Q rest (a.put o.dst (.slice (some ⟨g, 0, none⟩) (n + 1) cap')) w') :
    wpList Tryz.prog ops Q (o :: rest) a w := by
  have hob : ∀ k, some k = (Value.slice ad n cap).ownBlock → At ad k := by
    intro k hk
    cases ad with
    | none => simp [Value.ownBlock] at hk
    | some a => exact ⟨a, rfl, by simpa [Value.ownBlock] using hk.symm⟩
  refine wpList_append_lies (P := Tryz.prog) w hgd s y t ho B e i z 1 by' ht hi hz hsz hby hzc (by decide) (.slice ad n cap) n (rowL n V) hs hown ⟨blk, 0, none⟩ 1 1 [x] hx rfl (World.news_of_block hblk) ?_ (by decide) ?_ ?_ hB w.heap.size rfl ?_
  · intro u hu
    simp only [List.mem_cons, List.not_mem_nil, or_false] at hu
    subst hu
    exact hx1
  · simp only [maxLen]; omega
  · have h64 : (n + 1) * by' ≤ (n + 1) * 64 := Nat.mul_le_mul_left _ hb16
    omega
  · intro g cap' w' o1 o2 o3 o4
    refine h g cap' w' ?_ ⟨o2.os, o2.tape, o2.output, o2.size, fun k hk hA => o2.block k hk fun e => hA (hob k e)⟩ (o3.elim (fun e => .inl (hob g e.symm)) .inr)
    unfold OwnR
    rw [rowL_succ]
    have e1 : rowL n (fun i => if i = n then x else V i) = rowL n V := rowL_congr fun i hi => if_neg (by omega)
    rw [e1]
    simp only [if_true]
    exact o1

theorem info40' : (Tryz.prog.info? 40).map (fun i => (i.zero, i.size, i.bytes)) = some (some (.int .u64 0), 1, 8) := by kernel_rfl
theorem append_u64 {w : World} {B n cap : Nat} {ad : Option Addr} {V : Nat → Value} {ops : Array Oper} {rest : List Oper} {o : Oper} {a : Act} {Q : Exit → Act → World → Prop} (hown : OwnR 40 w B ad n cap V) (blk : Nat) (p : Int) (hblk : w.heap[blk]? = some (.cells #[.int .u64 p] 40 (0, 0))) (hn : n ≤ 1000000) (hB : B ≤ w.heap.size)
    (hgd : o.guard = none) (s y : Operand)
    (ho : o.op = .call { callee := .builtin .append, args := #[s, y], argTypes := #[85, 85] }) (hs : a.eval s = .slice ad n cap) (hx : a.eval y = .slice (some ⟨blk, 0, none⟩) 1 1)
    (h : ∀ g cap' w', OwnR 40 w' B (some ⟨g, 0, none⟩) (n + 1) cap' (fun i => if i = n then .int .u64 p else V i) → Went (At ad) w w' → (At ad g ∨ g = w.heap.size) → wpList Tryz.prog ops Q rest (a.put o.dst (.slice (some ⟨g, 0, none⟩) (n + 1) cap')) w') :
    wpList Tryz.prog ops Q (o :: rest) a w := by
  obtain ⟨i, hi, hzz⟩ := Option.map_eq_some_iff.1 info40'
  simp only [Prod.mk.injEq] at hzz
  obtain ⟨hz, hs2, hb⟩ := hzz
  exact append_row 85 40 i _ Tryz.underlying85 hi hz hs2 8 hb (by decide) (by kernel_rfl) hown blk (.int .u64 p) rfl hblk hn hB hgd s y ho hs hx h
theorem info30' : (Tryz.prog.info? 30).map (fun i => (i.zero, i.size, i.bytes)) = some (some (.int .u32 0), 1, 4) := by kernel_rfl
theorem append_h {w : World} {B n cap : Nat} {ad : Option Addr} {V : Nat → Value} {ops : Array Oper} {rest : List Oper} {o : Oper} {a : Act} {Q : Exit → Act → World → Prop} (hown : OwnR 30 w B ad n cap V) (blk : Nat) (p : Int) (hblk : w.heap[blk]? = some (.cells #[.int .u32 p] 30 (0, 0))) (hn : n ≤ 1000000) (hB : B ≤ w.heap.size)
    (hgd : o.guard = none) (s y : Operand)
    (ho : o.op = .call { callee := .builtin .append, args := #[s, y], argTypes := #[102, 102] }) (hs : a.eval s = .slice ad n cap) (hx : a.eval y = .slice (some ⟨blk, 0, none⟩) 1 1)
    (h : ∀ g cap' w', OwnR 30 w' B (some ⟨g, 0, none⟩) (n + 1) cap' (fun i => if i = n then .int .u32 p else V i) → Went (At ad) w w' → (At ad g ∨ g = w.heap.size) → wpList Tryz.prog ops Q rest (a.put o.dst (.slice (some ⟨g, 0, none⟩) (n + 1) cap')) w') :
    wpList Tryz.prog ops Q (o :: rest) a w := by
  obtain ⟨i, hi, hzz⟩ := Option.map_eq_some_iff.1 info30'
  simp only [Prod.mk.injEq] at hzz
  obtain ⟨hz, hs2, hb⟩ := hzz
  exact append_row 102 30 i _ Tryz.underlying102 hi hz hs2 4 hb (by decide) (by kernel_rfl) hown blk (.int .u32 p) rfl hblk hn hB hgd s y ho hs hx h
end Go.Proofs.YtdjjelknjojnfaaGreat

namespace Go.Proofs.YtdjjelknjojnfaaGreat
open Go Go.RowKit

/-- What a list of pairs tells at a key. -/
def look : List (Int × Int) → Int → Option Int
  | [], _ => none
  | p :: l, k => if p.1 = k then some p.2 else look l k

theorem look_none {k : Int} : ∀ {l : List (Int × Int)}, look l k = none ↔ ∀ p ∈ l, p.1 ≠ k
  | [] => by simp [look]
  | p :: l => by
    have := look_none (k := k) (l := l)
    by_cases h : p.1 = k
    · simp [look, h]
    · simp [look, h, this]
theorem look_append (k : Int) (v : Int) (k' : Int) : ∀ (l : List (Int × Int)), look l k = none → look (l ++ [(k, v)]) k' = if k' = k then some v else look l k'
  | [], _ => by
    by_cases h : k' = k
    · simp [look, h]
    · have h' : ¬ k = k' := fun e => h e.symm
      simp [look, h, h']
  | p :: l, h => by
    have hp : p.1 ≠ k := look_none.1 h p (by simp)
    have hl : look l k = none := look_none.2 fun q hq => look_none.1 h q (by simp [hq])
    have := look_append k v k' l hl
    by_cases e : p.1 = k'
    · have : k' ≠ k := fun x => hp (e.trans x)
      simp [look, e, this]
    · simp [look, e, this]
theorem look_set (k v v0 k' : Int) : ∀ (l : List (Int × Int)) (j : Nat), (l.map (·.1)).Nodup → l[j]? = some (k, v0) → look (l.set j (k, v)) k' = if k' = k then some v else look l k'
  | [], j, _, h => by simp at h
  | p :: l, 0, _, h => by
    obtain rfl : p = (k, v0) := by simpa using h
    by_cases e : k' = k
    · simp [look, e]
    · have e' : ¬ k = k' := fun x => e x.symm
      simp [look, e, e']
  | p :: l, j + 1, hn, h => by
    have h' : l[j]? = some (k, v0) := by simpa using h
    have hn' : (l.map (·.1)).Nodup := (List.nodup_cons.1 (by simpa using hn)).2
    have hp : p.1 ≠ k := fun e => (List.nodup_cons.1 (show (p.1 :: l.map (·.1)).Nodup by simpa using hn)).1 (e ▸ List.mem_map.2 ⟨_, List.mem_of_getElem? h', rfl⟩)
    have := look_set k v v0 k' l j hn' h'
    by_cases e : p.1 = k'
    · have : k' ≠ k := fun x => hp (e.trans x)
      simp [look, e, this]
    · simp [look, e, this]
theorem look_erase (k v0 k' : Int) : ∀ (l : List (Int × Int)) (j : Nat), (l.map (·.1)).Nodup → l[j]? = some (k, v0) → look (l.eraseIdx j) k' = if k' = k then none else look l k'
  | [], j, _, h => by simp at h
  | p :: l, 0, hn, h => by
    obtain rfl : p = (k, v0) := by simpa using h
    have hk := (List.nodup_cons.1 (show (k :: l.map (·.1)).Nodup by simpa using hn)).1
    by_cases e : k' = k
    · subst e
      simp only [List.eraseIdx_cons_zero, if_true]
      exact look_none.2 fun q hq e => hk (List.mem_map.2 ⟨q, hq, e⟩)
    · have e' : ¬ k = k' := fun x => e x.symm
      simp [look, e, e']
  | p :: l, j + 1, hn, h => by
    have h' : l[j]? = some (k, v0) := by simpa using h
    have hn' : (l.map (·.1)).Nodup := (List.nodup_cons.1 (by simpa using hn)).2
    have hp : p.1 ≠ k := fun e => (List.nodup_cons.1 (show (p.1 :: l.map (·.1)).Nodup by simpa using hn)).1 (e ▸ List.mem_map.2 ⟨_, List.mem_of_getElem? h', rfl⟩)
    have := look_erase k v0 k' l j hn' h'
    by_cases e : p.1 = k'
    · have : k' ≠ k := fun x => hp (e.trans x)
      simp [look, e, this]
    · simp [look, e, this]

def pairV (p : Int × Int) : Value × Value := (.int .i64 p.1, .int .u32 p.2)

theorem find_spec (k : Int) : ∀ (es : List MapEntry) (l : List (Int × Int)) (i : Nat), es.map (fun e => (e.key, e.val)) = l.map pairV →
    (Instr.findNow (.int .i64) (.int .i64 k) es i = some none ∧ look l k = none) ∨ ∃ (j : Nat) (v : Int), Instr.findNow (.int .i64) (.int .i64 k) es i = some (some (i + j, .int .u32 v)) ∧ l[j]? = some (k, v) ∧ look l k = some v
  | [], l, i, h => by
    cases l with
    | nil => exact .inl ⟨rfl, rfl⟩
    | cons p l => simp at h
  | e :: es, l, i, h => by
    cases l with
    | nil => simp at h
    | cons p l =>
      simp only [List.map_cons, List.cons.injEq, pairV, Prod.mk.injEq] at h
      obtain ⟨⟨h1, h2⟩, h3⟩ := h
      by_cases c : p.1 = k
      · refine .inr ⟨0, p.2, ?_, by simp [← c], by simp [look, c]⟩
        simp [Instr.findNow, h1, h2, Instr.sameNow, c]
      · have c' : (k == p.1) = false := by
          rw [beq_eq_false_iff_ne]
          exact fun x => c x.symm
        rcases find_spec k es l (i + 1) h3 with ⟨a, b⟩ | ⟨j, v, a, b, d⟩
        · exact .inl ⟨by simp [Instr.findNow, h1, Instr.sameNow, c', a], by simp [look, c, b]⟩
        · refine .inr ⟨j + 1, v, ?_, by simpa using b, by simp [look, c, d]⟩
          simp [Instr.findNow, h1, Instr.sameNow, c', a]
          omega

/-- All but one block stay as they were; none is new. -/
structure Turned (b : Nat) (w w' : World) : Prop where
  os : w'.os = w.os
  tape : w'.tape = w.tape
  output : w'.output = w.output
  size : w'.heap.size = w.heap.size
  block : ∀ k, k ≠ b → w'.heap[k]? = w.heap[k]?
theorem heap_turn {w : World} {b : Nat} {o' : Obj} : Turned b w { w with heap := w.heap.setIfInBounds b o' } := by
  refine ⟨rfl, rfl, rfl, by simp, fun i hne => ?_⟩
  simp [Array.getElem?_setIfInBounds_ne (fun e => hne e.symm)]
theorem heap_now {w : World} {b : Nat} {o o' : Obj} (hb : w.heap[b]? = some o) : ({ w with heap := w.heap.setIfInBounds b o' } : World).heap[b]? = some o' := by
  have hlt : b < w.heap.size := (Array.getElem?_eq_some_iff.1 hb).1
  simp [hlt]

/-- The map in block b tells P. -/
def IsMap (w : World) (b : Nat) (P : Int → Option Int) : Prop :=
  ∃ (es : Array MapEntry) (clock : Nat) (l : List (Int × Int)), w.heap[b]? = some (.map es clock) ∧ es.toList.map (fun e => (e.key, e.val)) = l.map pairV ∧ (l.map (·.1)).Nodup ∧ ∀ k, look l k = P k
theorem IsMap.lt {w : World} {b : Nat} {P : Int → Option Int} (h : IsMap w b P) : b < w.heap.size := by
  obtain ⟨es, clock, l, h, _⟩ := h
  exact (Array.getElem?_eq_some_iff.1 h).1
theorem IsMap.same {w u : World} {b : Nat} {P : Int → Option Int} (h : IsMap w b P) (e : u.heap[b]? = w.heap[b]?) : IsMap u b P := by
  obtain ⟨es, clock, l, h, k⟩ := h
  exact ⟨es, clock, l, e.trans h, k⟩
theorem IsMap.congr {w : World} {b : Nat} {P P' : Int → Option Int} (h : IsMap w b P) (e : ∀ k, P k = P' k) : IsMap w b P' := by
  obtain ⟨es, clock, l, h, k1, k2, k3⟩ := h
  exact ⟨es, clock, l, h, k1, k2, fun k => (k3 k).trans (e k)⟩
theorem IsMap.fresh (w : World) : IsMap (w.alloc (.map #[] 0)) w.heap.size (fun _ => none) := ⟨#[], 0, [], (MapKept.heap_alloc w _).1, rfl, by simp, fun _ => rfl⟩

/-- A function with one value turned. -/
def at1 {α : Type} (P : Int → α) (k : Int) (v : α) : Int → α := fun i => if i = k then v else P i

theorem isKey (k : Int) : MapKept.IsKey (.int .i64) (.int .i64 k) := by simp [MapKept.IsKey]
theorem zero3 (w : World) : (zeroValue 30).run Tryz.prog w = .ok (.int .u32 0) w := by kernel_rfl

theorem map_look {w : World} {b : Nat} {P : Int → Option Int} (h : IsMap w b P) (k : Int) :
    (Instr.lookup 82 (.map (some b)) (.int .i64 k) true).run Tryz.prog w = .ok (.tuple #[.int .u32 ((P k).getD 0), .bool (P k).isSome]) w := by
  obtain ⟨es, clock, l, hb, h1, h2, h3⟩ := h
  have hc := MapKept.run_checkKey (w := w) Tryz.underlying3 (isKey k) es.isEmpty 9999
  rcases find_spec k es.toList l 0 h1 with ⟨hf, hn⟩ | ⟨j, v, hf, hj, hl⟩
  · have hf' := MapKept.run_findKey (w := w) Tryz.underlying3 hf
    rw [h3 k] at hn
    simp only [Instr.lookup, Sem.run_bind, run_underlying Tryz.underlying82, Result.andThen_ok, MapKept.run_getObj_map hb, Sem.run_pure, hc, hf', zero3, hn]
    rfl
  · have hf' := MapKept.run_findKey (w := w) Tryz.underlying3 hf
    rw [h3 k] at hl
    simp only [Instr.lookup, Sem.run_bind, run_underlying Tryz.underlying82, Result.andThen_ok, MapKept.run_getObj_map hb, Sem.run_pure, hc, hf', hl]
    rfl
theorem map_at {w : World} {b : Nat} {P : Int → Option Int} (h : IsMap w b P) (k : Int) :
    (Instr.lookup 82 (.map (some b)) (.int .i64 k) false).run Tryz.prog w = .ok (.int .u32 ((P k).getD 0)) w := by
  obtain ⟨es, clock, l, hb, h1, h2, h3⟩ := h
  have hc := MapKept.run_checkKey (w := w) Tryz.underlying3 (isKey k) es.isEmpty 9999
  rcases find_spec k es.toList l 0 h1 with ⟨hf, hn⟩ | ⟨j, v, hf, hj, hl⟩
  · have hf' := MapKept.run_findKey (w := w) Tryz.underlying3 hf
    rw [h3 k] at hn
    simp only [Instr.lookup, Sem.run_bind, run_underlying Tryz.underlying82, Result.andThen_ok, MapKept.run_getObj_map hb, Sem.run_pure, hc, hf', zero3, hn]
    rfl
  · have hf' := MapKept.run_findKey (w := w) Tryz.underlying3 hf
    rw [h3 k] at hl
    simp only [Instr.lookup, Sem.run_bind, run_underlying Tryz.underlying82, Result.andThen_ok, MapKept.run_getObj_map hb, Sem.run_pure, hc, hf', hl]
    rfl
theorem map_put {w : World} {b : Nat} {P : Int → Option Int} (h : IsMap w b P) (k v : Int) :
    ∃ w', (Instr.mapUpdate 82 (.map (some b)) (.int .i64 k) (.int .u32 v)).run Tryz.prog w = .ok () w' ∧ IsMap w' b (at1 P k (some v)) ∧ Turned b w w' := by
  obtain ⟨es, clock, l, hb, h1, h2, h3⟩ := h
  have hc := MapKept.run_checkKey (w := w) Tryz.underlying3 (isKey k) false 9999
  rcases find_spec k es.toList l 0 h1 with ⟨hf, hn⟩ | ⟨j, u, hf, hj, hl⟩
  · have hf' := MapKept.run_findKey (w := w) Tryz.underlying3 hf
    refine ⟨{ w with heap := w.heap.setIfInBounds b (.map (es.push { key := .int .i64 k, val := .int .u32 v, born := clock }) (clock + 1)) }, ?_, ⟨_, _, l ++ [(k, v)], heap_now hb, ?_, ?_, ?_⟩, heap_turn⟩
    · simp only [Instr.mapUpdate, Sem.run_bind, run_underlying Tryz.underlying82, Result.andThen_ok, MapKept.run_getObj_map hb, hc, hf']
      exact MapKept.run_setObj_map _ hb
    · simp [h1, pairV]
    · rw [List.map_append, List.nodup_append]
      refine ⟨h2, by simp, fun a ha c hc' => ?_⟩
      simp at hc'
      subst hc'
      obtain ⟨p, hp, rfl⟩ := List.mem_map.1 ha
      exact look_none.1 hn p hp
    · intro k'
      rw [look_append k v k' l hn, h3 k']
      rfl
  · have hf' := MapKept.run_findKey (w := w) Tryz.underlying3 hf
    rw [Nat.zero_add] at hf'
    have hjk : (es[j]?).map (fun e => (e.key, e.val)) = some (pairV (k, u)) := by
      have h4 := congrArg (·[j]?) h1
      simp only [List.getElem?_map, hj, Option.map_some] at h4
      simpa using h4
    obtain ⟨e, he, hek⟩ := Option.map_eq_some_iff.1 hjk
    simp only [pairV, Prod.mk.injEq] at hek
    have hks := MapKept.run_keyThatStays (P := Tryz.prog) (w := w) (isKey k)
    refine ⟨{ w with heap := w.heap.setIfInBounds b (.map (es.modify j fun e => { e with key := .int .i64 k, val := .int .u32 v }) clock) }, ?_, ⟨_, _, l.set j (k, v), heap_now hb, ?_, ?_, ?_⟩, heap_turn⟩
    · simp only [Instr.mapUpdate, Sem.run_bind, run_underlying Tryz.underlying82, Result.andThen_ok, MapKept.run_getObj_map hb, hc, hf', he, Option.map_some, Option.getD_some, hek.1, hks]
      exact MapKept.run_setObj_map _ hb
    · rw [Array.toList_modify]
      apply List.ext_getElem?
      intro i
      have h4 := congrArg (·[i]?) h1
      simp only [List.getElem?_map] at h4
      simp only [List.getElem?_map, List.getElem?_modify, List.getElem?_set]
      by_cases e2 : j = i
      · subst e2
        have hlt : j < l.length := (List.getElem?_eq_some_iff.1 hj).1
        have he2 : es.toList[j]? = some e := by simpa using he
        simp [hlt, he2, pairV]
      · simp only [e2, if_false]
        rw [← h4]
        simp
    · have : (l.set j (k, v)).map (·.1) = l.map (·.1) := by
        apply List.ext_getElem?
        intro i
        simp only [List.getElem?_map, List.getElem?_set]
        by_cases e2 : j = i
        · subst e2
          have hlt : j < l.length := (List.getElem?_eq_some_iff.1 hj).1
          have hj' : l[j] = (k, u) := Option.some.inj ((List.getElem?_eq_getElem hlt).symm.trans hj)
          simp [hlt, hj']
        · simp [e2]
      rw [this]
      exact h2
    · intro k'
      rw [look_set k v u k' l j h2 hj, h3 k']
      rfl

theorem map_eraseIdx' {α β : Type} (f : α → β) : ∀ (l : List α) (j : Nat), (l.eraseIdx j).map f = (l.map f).eraseIdx j
  | [], j => by simp
  | x :: l, 0 => by simp
  | x :: l, j + 1 => by simp [map_eraseIdx' f l j]
theorem map_del {w : World} {b : Nat} {P : Int → Option Int} (h : IsMap w b P) (k : Int) :
    ∃ w', (∀ ty : TypeId, (Builtin.delete_ #[82, 3] ty #[.map (some b), .int .i64 k]).run Tryz.prog w = .ok (.tuple #[]) w') ∧ IsMap w' b (at1 P k none) ∧ Turned b w w' := by
  obtain ⟨es, clock, l, hb, h1, h2, h3⟩ := h
  have hc := MapKept.run_checkKey (w := w) Tryz.underlying3 (isKey k) es.isEmpty 9999
  rcases find_spec k es.toList l 0 h1 with ⟨hf, hn⟩ | ⟨j, u, hf, hj, hl⟩
  · have hf' := MapKept.run_findKey (w := w) Tryz.underlying3 hf
    refine ⟨{ w with heap := w.heap.setIfInBounds b (.map es clock) }, ?_, ⟨_, _, l, heap_now hb, h1, h2, ?_⟩, heap_turn⟩
    · intro ty
      simp only [Builtin.delete_, List.getElem?_toArray, List.getElem?_cons_zero, List.getElem?_cons_succ, Sem.run_bind, run_underlying Tryz.underlying82, Result.andThen_ok, MapKept.run_getObj_map hb, hc, hf', MapKept.run_setObj_map _ hb]
      rfl
    · intro k'
      by_cases e : k' = k
      · subst e
        simp [at1, hn]
      · simp [at1, e, h3]
  · have hf' := MapKept.run_findKey (w := w) Tryz.underlying3 hf
    rw [Nat.zero_add] at hf'
    have hjl : j < es.size := by
      have h4 := congrArg List.length h1
      simp only [List.length_map] at h4
      rw [← Array.length_toList, h4]
      exact (List.getElem?_eq_some_iff.1 hj).1
    have her : (es.eraseIdxIfInBounds j).toList = es.toList.eraseIdx j := by
      simp [Array.eraseIdxIfInBounds, hjl]
    refine ⟨{ w with heap := w.heap.setIfInBounds b (.map (es.eraseIdxIfInBounds j) clock) }, ?_, ⟨_, _, l.eraseIdx j, heap_now hb, ?_, ?_, ?_⟩, heap_turn⟩
    · intro ty
      simp only [Builtin.delete_, List.getElem?_toArray, List.getElem?_cons_zero, List.getElem?_cons_succ, Sem.run_bind, run_underlying Tryz.underlying82, Result.andThen_ok, MapKept.run_getObj_map hb, hc, hf', MapKept.run_setObj_map _ hb]
      rfl
    · rw [her, map_eraseIdx', map_eraseIdx', h1]
    · rw [map_eraseIdx']
      exact h2.sublist (List.eraseIdx_sublist _ _)
    · intro k'
      rw [look_erase k u k' l j h2 hj, h3 k']
      rfl
end Go.Proofs.YtdjjelknjojnfaaGreat

namespace Go.Proofs.YtdjjelknjojnfaaGreat.Od
open Go Go.RowKit

/-- The cells of an order: the count, the variables by levels, the levels by variables. -/
def ordCell (n : Nat) (v l : Nat → Nat) (i : Nat) : Value := .int .i64 ((if i = 0 then n else if i < 9 then v (i - 1) else l (i - 9) : Nat) : Int)

def IsOrd (w : World) (P n : Nat) (v l : Nat → Nat) : Prop := w.rowIs P 77 17 (ordCell n v l)

/-- A function with one value turned. -/
def upd (f : Nat → Nat) (k x : Nat) : Nat → Nat := fun i => if i = k then x else f i
theorem upd_same (f : Nat → Nat) (k x : Nat) : upd f k x k = x := by simp [upd]
theorem upd_other (f : Nat → Nat) {k i : Nat} (x : Nat) (h : i ≠ k) : upd f k x i = f i := by simp [upd, h]

/-- All but one block stay as they were; there may be new ones. -/
structure Moved (P : Nat) (w w' : World) : Prop where
  os : w'.os = w.os
  tape : w'.tape = w.tape
  output : w'.output = w.output
  size : w.heap.size ≤ w'.heap.size
  block : ∀ k, k < w.heap.size → k ≠ P → w'.heap[k]? = w.heap[k]?

theorem Moved.refl (P : Nat) (w : World) : Moved P w w := ⟨rfl, rfl, rfl, Nat.le_refl _, fun _ _ _ => rfl⟩
theorem Moved.trans {P : Nat} {a b c : World} (h : Moved P a b) (k : Moved P b c) : Moved P a c :=
  ⟨k.os.trans h.os, k.tape.trans h.tape, k.output.trans h.output, Nat.le_trans h.size k.size, fun i hi hp => (k.block i (Nat.lt_of_lt_of_le hi h.size) hp).trans (h.block i hi hp)⟩
theorem Moved.below {P B : Nat} {w w' : World} (h : Moved P w w') (hB : B ≤ w.heap.size) (hP : B ≤ P) : Below B w w' :=
  ⟨h.os, h.tape, h.output, h.size, fun k hk => h.block k (by omega) (by omega)⟩
theorem Moved.set {P : Nat} (w : World) (o : Nat) (v : Value) : Moved P w (w.setCell ⟨P, o, none⟩ v) :=
  ⟨rfl, rfl, rfl, by simp [World.setCell], fun k _ hp => Below.heap_setCell _ _ _ _ hp⟩
theorem Moved.of_below {P : Nat} {w w' : World} (h : Below w.heap.size w w') : Moved P w w' := ⟨h.os, h.tape, h.output, h.size, fun k hk _ => h.block k hk⟩
theorem Moved.drew {P : Nat} {a b : World} (h : Moved P a b) : Moved P a b.drew := ⟨h.os, h.tape, h.output, h.size, h.block⟩
theorem Moved.undrew {P : Nat} {a b : World} (h : Moved P a.drew b) : Moved P a b := ⟨h.os, h.tape, h.output, h.size, h.block⟩

namespace IsOrd
variable {w : World} {P n : Nat} {v l : Nat → Nat}
theorem lt (h : IsOrd w P n v l) : P < w.heap.size := World.rowIs.lt h
theorem cell0 (h : IsOrd w P n v l) : w.cell? ⟨P, 0, none⟩ = some (.int .i64 (n : Int)) := World.rowIs.cell h (i := 0) (by omega)
theorem cellV (h : IsOrd w P n v l) {i : Nat} (hi : i < 8) : w.cell? ⟨P, 1 + i, none⟩ = some (.int .i64 (v i : Int)) := by
  rw [World.rowIs.cell h (i := 1 + i) (by omega), ordCell, if_neg (by omega), if_pos (by omega), show 1 + i - 1 = i by omega]
theorem cellL (h : IsOrd w P n v l) {i : Nat} (hi : i < 8) : w.cell? ⟨P, 9 + i, none⟩ = some (.int .i64 (l i : Int)) := by
  rw [World.rowIs.cell h (i := 9 + i) (by omega), ordCell, if_neg (by omega), if_neg (by omega), show 9 + i - 9 = i by omega]
theorem frozen (h : IsOrd w P n v l) (i : Nat) : w.frozen? ⟨P, i, none⟩ = false := World.rowIs.frozen h i
theorem of_block {w' : World} (h : IsOrd w P n v l) (e : w'.heap[P]? = w.heap[P]?) : IsOrd w' P n v l := World.rowIs.of_block h e
theorem below {w' : World} (h : IsOrd w P n v l) (k : Below w.heap.size w w') : IsOrd w' P n v l := h.of_block (k.block _ h.lt)
theorem drew (h : IsOrd w P n v l) : IsOrd w.drew P n v l := World.rowIs.drew h
theorem new (h : IsOrd w P n v l) (o : Obj) : IsOrd (w.alloc o) P n v l := World.rowIs.alloc h o
theorem setV (h : IsOrd w P n v l) {k : Nat} (x : Nat) (hk : k < 8) : IsOrd (w.setCell ⟨P, 1 + k, none⟩ (.int .i64 (x : Int))) P n (upd v k x) l :=
  (World.rowIs.set h (1 + k) _).congr fun j _ => by
    by_cases e : j = 1 + k
    · subst e
      show (if 1 + k = 1 + k then _ else _) = _
      rw [if_pos rfl, ordCell, if_neg (by omega), if_pos (by omega), show 1 + k - 1 = k by omega, upd_same]
    · simp only [if_neg e, ordCell]
      by_cases h0 : j = 0
      · simp [h0]
      · by_cases h9 : j < 9
        · rw [if_neg h0, if_pos h9, if_neg h0, if_pos h9, upd_other _ _ (by omega)]
        · rw [if_neg h0, if_neg h9, if_neg h0, if_neg h9]
theorem setL (h : IsOrd w P n v l) {k : Nat} (x : Nat) (hk : k < 8) : IsOrd (w.setCell ⟨P, 9 + k, none⟩ (.int .i64 (x : Int))) P n v (upd l k x) :=
  (World.rowIs.set h (9 + k) _).congr fun j _ => by
    by_cases e : j = 9 + k
    · subst e
      show (if 9 + k = 9 + k then _ else _) = _
      rw [if_pos rfl, ordCell, if_neg (by omega), if_neg (by omega), show 9 + k - 9 = k by omega, upd_same]
    · simp only [if_neg e, ordCell]
      by_cases h0 : j = 0
      · simp [h0]
      · by_cases h9 : j < 9
        · rw [if_neg h0, if_pos h9, if_neg h0, if_pos h9]
        · rw [if_neg h0, if_neg h9, if_neg h0, if_neg h9, upd_other _ _ (by omega)]
end IsOrd

section
variable {w : World} {P n : Nat} {v l : Nat → Nat}

theorem has_in (h : IsOrd w P n v l) (i : Nat) (hi : i < n) :
    Calls Tryz.prog 99 #[.pointer (some ⟨P, 0, none⟩), .int .i64 (i : Int)] w fun e w' => e = .returned (.bool true) ∧ w' = w := by
  have c0 := h.cell0
  have hi' : (i : Int) < (n : Int) := by omega
  go_enter Tryz.func99, Tryz.ntmps99
  go_wp2
  go_ret
  exact ⟨rfl, rfl⟩

theorem has_out (h : IsOrd w P n v l) (i : Int) (hi : i < 0 ∨ (n : Int) ≤ i) :
    Calls Tryz.prog 99 #[.pointer (some ⟨P, 0, none⟩), .int .i64 i] w fun e w' => e = .returned (.bool false) ∧ w' = w := by
  have c0 := h.cell0
  by_cases h0 : i < 0
  · have hd : decide (0 ≤ i) = false := by simp; omega
    clear hi
    go_enter Tryz.func99, Tryz.ntmps99
    go_wp2
    go_ret
    exact ⟨rfl, rfl⟩
  · have hd : decide (0 ≤ i) = true := by simp; omega
    have hd2 : decide (i < (n : Int)) = false := by simp; omega
    clear hi
    go_enter Tryz.func99, Tryz.ntmps99
    go_wp2
    go_ret
    exact ⟨rfl, rfl⟩

theorem len_any (h : IsOrd w P n v l) :
    Calls Tryz.prog 71 #[.pointer (some ⟨P, 0, none⟩)] w fun e w' => e = .returned (.int .i64 (n : Int)) ∧ w' = w := by
  have c0 := h.cell0
  go_enter Tryz.func71, Tryz.ntmps71
  go_wp2
  go_ret
  exact ⟨rfl, rfl⟩

theorem level_in (h : IsOrd w P n v l) (hn : n ≤ 8) (i : Nat) (hi : i < n) :
    Calls Tryz.prog 85 #[.pointer (some ⟨P, 0, none⟩), .int .i64 (i : Int)] w fun e w' => e = .returned (.int .i64 (l i : Int)) ∧ w' = w := by
  have c0 := h.cellL (i := i) (by omega)
  have hi' : (i : Int) < 8 := by omega
  go_enter Tryz.func85, Tryz.ntmps85
  go_wp2_with (first
    | (go_at_call 99; refine (has_in h i hi).mono ?_; rintro e w' ⟨rfl, rfl⟩))
  go_ret
  exact ⟨rfl, rfl⟩

theorem level_out (h : IsOrd w P n v l) (i : Int) (hi : i < 0 ∨ (n : Int) ≤ i) :
    Calls Tryz.prog 85 #[.pointer (some ⟨P, 0, none⟩), .int .i64 i] w fun e w' => e = .returned (.int .i64 (-1)) ∧ w' = w := by
  have hI : Aside (i < 0 ∨ (n : Int) ≤ i) := hi
  clear hi
  go_enter Tryz.func85, Tryz.ntmps85
  go_wp2_with (first
    | (go_at_call 99; refine (has_out h i hI.out).mono ?_; rintro e w' ⟨rfl, rfl⟩))
  go_ret
  exact ⟨rfl, rfl⟩

theorem put_any (h : IsOrd w P n v l) (k x : Nat) (hk : k < 8) (hx : x < 8) :
    Calls Tryz.prog 70 #[.pointer (some ⟨P, 0, none⟩), .int .i64 (k : Int), .int .i64 (x : Int)] w fun e w' => e = .returned (.tuple #[]) ∧ IsOrd w' P n (upd v k x) (upd l x k) ∧ Moved P w w' := by
  have c0 := h.cellV hk
  have f0 := h.frozen (1 + k)
  have h1 := h.setV x hk
  have c1 := h1.cellL hx
  have f1 := h1.frozen (9 + x)
  have h2 := h1.setL k hx
  have hk' : (k : Int) < 8 := by omega
  have hx' : (x : Int) < 8 := by omega
  have hm : Moved P w ((w.setCell ⟨P, 1 + k, none⟩ (.int .i64 (x : Int))).setCell ⟨P, 9 + x, none⟩ (.int .i64 (k : Int))) := (Moved.set _ _ _).trans (Moved.set _ _ _)
  go_enter Tryz.func70, Tryz.ntmps70
  go_wp2
  go_end0
  exact ⟨rfl, h2, hm⟩

/-- What a swap leaves. -/
def swV (v : Nat → Nat) (k : Nat) : Nat → Nat := upd (upd v k (v (k + 1))) (k + 1) (v k)
def swL (v l : Nat → Nat) (k : Nat) : Nat → Nat := upd (upd l (v (k + 1)) k) (v k) (k + 1)

end

end Go.Proofs.YtdjjelknjojnfaaGreat.Od

namespace Go.Proofs.YtdjjelknjojnfaaGreat.Od
open Go Go.RowKit

def idn (n : Nat) : Nat → Nat := fun i => if i < n then i else 0
theorem idn_upd (j : Nat) : upd (idn j) j j = idn (j + 1) := by
  funext i
  simp only [upd, idn]
  by_cases h : i = j
  · subst h; simp
  · rw [if_neg h]
    by_cases h2 : i < j
    · rw [if_pos h2, if_pos (by omega)]
    · rw [if_neg h2, if_neg (by omega)]

/-- So many variables as there are where so many are asked for. -/
def heldN (x : Int) : Nat := if x < 1 then 1 else if 8 < x then 8 else x.toNat
theorem heldN_le (x : Int) : 1 ≤ heldN x ∧ heldN x ≤ 8 := by
  unfold heldN
  split
  · omega
  · split <;> omega

theorem new_any (x : Int) (w : World) :
    Calls Tryz.prog 40 #[.int .i64 x] w fun e w' => e = .returned (.pointer (some ⟨w.heap.size, 0, none⟩)) ∧ IsOrd w' w.heap.size (heldN x) (idn (heldN x)) (idn (heldN x)) ∧ Below w.heap.size w w' := by
  obtain ⟨y, hy⟩ : ∃ y : Int, (if 1 > x then 1 else x) = y := ⟨_, rfl⟩
  obtain ⟨n, hn⟩ : ∃ n : Nat, heldN x = n := ⟨_, rfl⟩
  have hb := heldN_le x
  rw [hn] at hb ⊢
  have hmin : (if 8 < y then 8 else y) = (n : Int) := by
    rw [← hy, ← hn]
    unfold heldN
    by_cases h1 : x < 1
    · rw [if_pos (show (1 : Int) > x from h1), if_pos h1, if_neg (by omega)]; rfl
    · rw [if_neg (show ¬ (1 : Int) > x from h1), if_neg h1]
      split
      · rfl
      · omega
  clear hn
  go_enter Tryz.func40, Tryz.ntmps40
  go_wp2
  go_loopg [14] n (fun g si wr => ∃ j : Nat, j + g = n ∧ si = .int .i64 (j : Int) ∧ IsOrd wr w.heap.size n (idn j) (idn j) ∧ Below w.heap.size w wr)
  case atStart =>
    refine ⟨0, by omega, rfl, ?_, (Below.refl _ w).alloc (Nat.le_refl _) _⟩
    refine World.rowIs_alloc w _ 77 _ fun i hi => ?_
    have hi' : i < 17 := hi
    have : i = 0 ∨ i = 1 ∨ i = 2 ∨ i = 3 ∨ i = 4 ∨ i = 5 ∨ i = 6 ∨ i = 7 ∨ i = 8 ∨ i = 9 ∨ i = 10 ∨ i = 11 ∨ i = 12 ∨ i = 13 ∨ i = 14 ∨ i = 15 ∨ i = 16 := by omega
    rcases this with rfl | rfl | rfl | rfl | rfl | rfl | rfl | rfl | rfl | rfl | rfl | rfl | rfl | rfl | rfl | rfl | rfl <;> rfl
  case round =>
    obtain ⟨j, hj, rfl, h, hbl⟩ := hrel
    have hJ : Aside (j + gk = n) := hj
    by_cases hlt : j < n
    · have hlt' : (j : Int) < (n : Int) := by omega
      have P1 := put_any h j j (by omega) (by omega)
      clear hj
      go_wp2_with (go_at_call 70; refine P1.mono ?_; clear P1; rintro e w1 ⟨rfl, h1, m1⟩)
      go_roundg (gk - 1)
      case measure => have := hJ.out; omega
      case rel =>
        have hj := hJ.out
        rw [idn_upd] at h1
        exact ⟨j + 1, by omega, by go_num, h1, hbl.trans (m1.below hbl.size (Nat.le_refl _))⟩
    · obtain rfl : j = n := by omega
      clear hj
      go_wp2
      go_ret
      exact ⟨rfl, h, hbl⟩

/-- The variables by levels go over into a new row. -/
theorem copy_vars {w : World} {P n g : Nat} {v l : Nat → Nat} (h : IsOrd w P n v l) (hn : n ≤ 8) (hm : w.heap[g]? = some (.cells (madeCells #[.int .i64 0] n) 3 (0, 0))) :
    ∃ w', (Builtin.copy_ #[108, 108] 3 #[.slice (some ⟨g, 0, none⟩) n n, .slice (some ⟨P, 1, none⟩) 8 8]).run Tryz.prog w = .ok (goInt n) w' ∧ w'.rowIs g 3 n (fun i => .int .i64 (v i : Int)) ∧ Moved g w w' := by
  have hcs : ((List.range n).map fun i => Value.int .i64 (v i : Int)).length = n := by simp
  have hrun := run_copy_row (P := Tryz.prog) w 108 108 3 3 g 0 n n ⟨P, 1, none⟩ 8 8 (madeCells #[.int .i64 0] n) 3 ((List.range n).map fun i => Value.int .i64 (v i : Int)) Tryz.underlying108 (by kernel_rfl) hm (by rw [hcs]; simp [Nat.min_def]; omega) (fun j u hu => by
      have hj : j < n := by
        have := (List.getElem?_eq_some_iff.1 hu).1
        simpa using this
      rw [List.getElem?_map, List.getElem?_range hj] at hu
      have hu' : Value.int .i64 (v j : Int) = u := by simpa using hu
      rw [← hu']
      have : (⟨P, 1, none⟩ : Addr).add j = ⟨P, 1 + j, none⟩ := by unfold Addr.add; split <;> simp_all
      rw [this]
      exact h.cellV (by omega)) (by rw [hcs, size_madeCells]; omega) (fun u hu => by
      obtain ⟨i, _, rfl⟩ := List.mem_map.1 hu
      rfl)
  rw [hcs] at hrun
  refine ⟨_, hrun, ?_, ⟨rfl, rfl, rfl, by simp [World.setRow], fun k _ hk => setRow_other w g k _ hk⟩⟩
  refine ⟨_, setRow_heap w g _ _ 3 _ hm, ?_, fun i hi => ?_⟩
  · simp [size_madeCells]
  · rw [List.take_zero, List.nil_append, List.getElem?_toArray, List.getElem?_append_left (by rw [hcs]; exact hi), List.getElem?_map, List.getElem?_range hi]
    rfl

theorem info3 : (Tryz.prog.info? 3).map (fun i => (i.zero, i.size, i.bytes)) = some (some (.int .i64 0), 1, 8) := by kernel_rfl

theorem make_ints (n : Nat) (hn : n ≤ 1000) (w : World) :
    (Instr.makeSlice 108 (.int .i64 (n : Int)) (.int .i64 (n : Int))).run Tryz.prog w = .ok (.slice (some ⟨w.heap.size, 0, none⟩) n n) (w.alloc (.cells (madeCells #[.int .i64 0] n) 3)) := by
  obtain ⟨i, hi, hz, hs, hb⟩ := info_parts info3
  exact run_make_row 108 3 i _ Tryz.underlying108 hi hz hs rfl .i64 .i64 n (by rw [hb]; omega) (by omega) w

theorem all_any {w : World} {P n : Nat} {v l : Nat → Nat} (h : IsOrd w P n v l) (hn : n ≤ 8) :
    Calls Tryz.prog 60 #[.pointer (some ⟨P, 0, none⟩)] w fun e w' => e = .returned (.slice (some ⟨w.heap.size, 0, none⟩) n n) ∧ w'.rowIs w.heap.size 3 n (fun i => .int .i64 (v i : Int)) ∧ Below w.heap.size w w' := by
  have c0 := h.cell0
  have hmk := make_ints n (by omega) w
  obtain ⟨w1, hrun, r1, m1⟩ := copy_vars (h.new (.cells (madeCells #[.int .i64 0] n) 3)) hn (heap_alloc_new w (.cells (madeCells #[.int .i64 0] n) 3))
  go_enter Tryz.func60, Tryz.ntmps60
  go_wp2
  go_ret
  exact ⟨rfl, r1, ((Below.refl _ w).alloc (Nat.le_refl _) _).trans (m1.below (by simp) (Nat.le_refl _))⟩

theorem ord_cells {w : World} {P n : Nat} {v l : Nat → Nat} (h : IsOrd w P n v l) : ∃ c : Array Value, w.heap[P]? = some (.cells c 77 (0, 0)) ∧ c.size = 17 ∧ (∀ i, i < 17 → c[i]? = some (ordCell n v l i)) ∧ c.all (·.oneCell') = true := by
  obtain ⟨c, hb, hs, hc⟩ := h
  refine ⟨c, hb, hs, hc, ?_⟩
  rw [Array.all_eq_true]
  intro i hi
  have := hc i (by omega)
  rw [Array.getElem?_eq_getElem hi] at this
  have e : c[i] = ordCell n v l i := by simpa using this
  rw [e]
  rfl

theorem copy_any {w : World} {P n : Nat} {v l : Nat → Nat} (h : IsOrd w P n v l) :
    Calls Tryz.prog 79 #[.pointer (some ⟨P, 0, none⟩)] w fun e w' => e = .returned (.pointer (some ⟨w.heap.size, 0, none⟩)) ∧ IsOrd w' w.heap.size n v l ∧ Below w.heap.size w w' := by
  obtain ⟨c, hb, hs, hc, h1⟩ := ord_cells h
  have hC : Aside (c.size = 17) := hs
  have hB : Aside (w.heap[P]? = some (.cells c 77 (0, 0))) := hb
  have hA : Aside (c.all (·.oneCell') = true) := h1
  clear hs hb h1
  go_enter Tryz.func79, Tryz.ntmps79
  go_wp2_with (first
    | refine wpList_load_row rfl 77 (.tmp 5) rfl P rfl 77 c (0, 0) _ hB.out Tryz.underlying77 rfl (by rw [hC.out]; kernel_rfl) ?_
    | refine wpList_store_row rfl 77 (.tmp 3) (.tmp 6) rfl w.heap.size c rfl rfl 77 _ (heap_alloc_new w _) (by rw [hC.out]; kernel_rfl) (by rw [hC.out]; rfl) hA.out ?_)
  go_ret
  refine ⟨rfl, ⟨c, setRow_heap _ _ _ _ 77 _ (heap_alloc_new w _), hC.out, hc⟩, ?_⟩
  exact ((Below.refl _ w).alloc (Nat.le_refl _) _).trans ⟨rfl, rfl, rfl, by simp [World.setRow], fun k hk => setRow_other _ _ k _ (by omega)⟩
end Go.Proofs.YtdjjelknjojnfaaGreat.Od

namespace Go.Proofs.YtdjjelknjojnfaaGreat.Od
open Go Go.RowKit

theorem run_loadVar_cells {P : Program} (w : World) (g o : Nat) (ty : TypeId) (cs : Array Value) (d : TypeDesc) (hc : ∀ j u, cs.toList[j]? = some u → w.cell? ⟨g, o + j, none⟩ = some u)
    (hu : P.underlying ty = some d) (hd : (match d with | .struct _ | .array _ _ => true | _ => false) = true) (hi : (P.info? ty).map (·.size) = some cs.size) :
    (loadVar ty ⟨g, o, none⟩).run P w = .ok (.agg cs) w := by
  have hl : (loadCells ⟨g, o, none⟩ cs.toList.length).run P w = .ok cs.toList.toArray w :=
    run_loadCells_list (P := P) w ⟨g, o, none⟩ cs.toList (fun j v hv => by
      have hadd : (⟨g, o, none⟩ : Addr).add j = ⟨g, o + j, none⟩ := by unfold Addr.add; split <;> simp_all
      rw [hadd]
      exact hc j v hv)
  cases hq : P.info? ty with
  | none => simp [hq] at hi
  | some i =>
    have hs : i.size = cs.size := by simpa [hq] using hi
    have hagg : (isAgg ty).run P w = .ok true w := by
      unfold isAgg
      rw [Sem.run_bind, run_underlying hu w]
      cases d <;> simp_all
    simp only [Array.length_toList, Array.toArray_toList] at hl
    simp [loadVar, Sem.run_bind, hagg, sizeOf, typeInfo, hq, hs, hl]
theorem wp_load_cells {P : Program} {o : Oper} {a : Act} {w : World} {K : Act → World → Prop} {Q : Exit → Act → World → Prop} (ty : TypeId) (x : Operand) (ho : o.op = .load ty x)
    (g q : Nat) (hx : a.eval x = .pointer (some ⟨g, q, none⟩)) (cs : Array Value) (d : TypeDesc) (hc : ∀ j u, cs.toList[j]? = some u → w.cell? ⟨g, q + j, none⟩ = some u)
    (hu : P.underlying ty = some d) (hd : (match d with | .struct _ | .array _ _ => true | _ => false) = true) (hi : (P.info? ty).map (·.size) = some cs.size)
    (h : K (a.put o.dst (.agg cs)) w) : o.wp P a w K Q := by
  unfold Oper.wp execOp
  simp only [ho, hx, Instr.loadAt, Instr.sureAddr, Sem.run_bind, Sem.run_pure, Result.andThen_ok, run_loadVar_cells w g q ty cs d hc hu hd hi]
  exact h
theorem wpList_load_cells {P : Program} {ops : Array Oper} {rest : List Oper} {o : Oper} {a : Act} {w : World} {Q : Exit → Act → World → Prop} (hgd : o.guard = none) (ty : TypeId) (x : Operand) (ho : o.op = .load ty x)
    (g q : Nat) (hx : a.eval x = .pointer (some ⟨g, q, none⟩)) (cs : Array Value) (d : TypeDesc) (hc : ∀ j u, cs.toList[j]? = some u → w.cell? ⟨g, q + j, none⟩ = some u)
    (hu : P.underlying ty = some d) (hd : (match d with | .struct _ | .array _ _ => true | _ => false) = true) (hi : (P.info? ty).map (·.size) = some cs.size)
    (h : wpList P ops Q rest (a.put o.dst (.agg cs)) w) : wpList P ops Q (o :: rest) a w :=
  wpList_plain hgd fun _ hK => wp_load_cells ty x ho g q hx cs d hc hu hd hi (hK _ _ h)

section
variable {w : World} {P n : Nat} {v l : Nat → Nat}
theorem slen_any (h : w.cell? ⟨P, 0, none⟩ = some (.int .i64 (n : Int))) :
    Calls Tryz.prog 71 #[.pointer (some ⟨P, 0, none⟩)] w fun e w' => e = .returned (.int .i64 (n : Int)) ∧ w' = w := by
  go_enter Tryz.func71, Tryz.ntmps71
  go_wp2
  go_ret
  exact ⟨rfl, rfl⟩
/-- The cells of an order as a row. -/
theorem ord_row (n : Nat) (v l : Nat → Nat) : ∃ c : Array Value, c.size = 17 ∧ (∀ i, i < 17 → c[i]? = some (ordCell n v l i)) ∧ c.all (·.oneCell') = true := by
  refine ⟨((List.range 17).map (ordCell n v l)).toArray, by simp, fun i hi => by simp [hi], ?_⟩
  rw [Array.all_eq_true]
  intro i hi
  simp [ordCell, Value.oneCell']
theorem scopy_any (h : ∀ i, i < 17 → w.cell? ⟨P, i, none⟩ = some (ordCell n v l i)) :
    Calls Tryz.prog 79 #[.pointer (some ⟨P, 0, none⟩)] w fun e w' => e = .returned (.pointer (some ⟨w.heap.size, 0, none⟩)) ∧ IsOrd w' w.heap.size n v l ∧ Below w.heap.size w w' := by
  obtain ⟨c, hs, hc, h1⟩ := ord_row n v l
  have hC : Aside (c.size = 17) := hs
  have hA : Aside (c.all (·.oneCell') = true) := h1
  have hD : Aside (∀ j u, c.toList[j]? = some u → w.cell? ⟨P, 0 + j, none⟩ = some u) := fun j u hu => by
    have hj : j < 17 := by
      have := (List.getElem?_eq_some_iff.1 hu).1
      simp [hs] at this
      exact this
    rw [Nat.zero_add, h j hj, ← hc j hj]
    simpa using hu
  clear hs h1 h
  go_enter Tryz.func79, Tryz.ntmps79
  go_wp2_with (first
    | refine wpList_load_cells rfl 77 (.tmp 5) rfl P 0 rfl c _ hD.out Tryz.underlying77 rfl (by rw [hC.out]; kernel_rfl) ?_
    | refine wpList_store_row rfl 77 (.tmp 3) (.tmp 6) rfl w.heap.size c rfl rfl 77 _ (heap_alloc_new w _) (by rw [hC.out]; kernel_rfl) (by rw [hC.out]; rfl) hA.out ?_)
  go_ret
  refine ⟨rfl, ⟨c, setRow_heap _ _ _ _ 77 _ (heap_alloc_new w _), hC.out, hc⟩, ?_⟩
  exact ((Below.refl _ w).alloc (Nat.le_refl _) _).trans ⟨rfl, rfl, rfl, by simp [World.setRow], fun k hk => setRow_other _ _ k _ (by omega)⟩
end
end Go.Proofs.YtdjjelknjojnfaaGreat.Od

namespace Go.Proofs.YtdjjelknjojnfaaGreat
open Go Go.RowKit

section
variable {w w' : World} {P R N T base n F A : Nat} {c : Nat → Int} {ops fails : Int}
/-- A finder, driven. -/
theorem drive_find {S : Tb.Fd} {t0 t : Nat → Int} (h : Tb.Sys w P R N T base n c ops fails) (k : Tb.IsFd w F T S) (ht : ∀ i, c (base + i) = t i) (hi : Tb.FI n t S) (hg : Tb.Good n t) (so : Tb.Solo n t0 t S) :
    Calls Tryz.prog 115 #[.func (.func 120) #[.pointer (some ⟨F, 0, none⟩)] #[]] w fun e w' => e = .returned (.tuple #[]) ∧ ∃ (c' : Nat → Int) (o' f' : Int) (t' : Nat → Int) (S' : Tb.Fd), Tb.Sys w' P R N T base n c' o' f' ∧ (∀ i, c' (base + i) = t' i) ∧ (∀ j, j < base ∨ base + n ≤ j → c' j = c j) ∧ Tb.IsFd w' F T S' ∧ S'.st = 0 ∧ S'.key = S.key ∧ Tb.FI n t' S' ∧ Tb.Good n t' ∧ Tb.Solo n t0 t' S' ∧ Went (Tb.Foot P R F) w w' := by
  obtain ⟨key, hkey⟩ : ∃ key, S.key = key := ⟨_, rfl⟩
  rw [hkey]
  go_enter Tryz.func115, Tryz.ntmps115
  go_wp2_with fail
  go_loopg [2] (S.mu + 1) (fun g s2 wr => ∃ (c' : Nat → Int) (o' f' : Int) (t' : Nat → Int) (S' : Tb.Fd), S'.mu + 1 ≤ g ∧ Tb.Sys wr P R N T base n c' o' f' ∧ (∀ i, c' (base + i) = t' i) ∧ (∀ j, j < base ∨ base + n ≤ j → c' j = c j) ∧ Tb.IsFd wr F T S' ∧ Aside (S'.key = key) ∧ Tb.FI n t' S' ∧ Tb.Good n t' ∧ Tb.Solo n t0 t' S' ∧ Went (Tb.Foot P R F) w wr)
  case atStart => exact ⟨c, ops, fails, t, S, Nat.le_refl _, h, ht, fun _ _ => rfl, k, hkey, hi, hg, so, Went.refl _ _⟩
  case round =>
    obtain ⟨c', o', f', t', S', hm, H, ht', hj', K, hk', I, G, O, M⟩ := hrel
    clear h k ht hi hg so hkey
    have hmA : Aside (S'.mu + 1 ≤ gk) := hm
    have Ks := Tb.step_any H K t' ht' I
    have I2 : Aside (Tb.FI n (S'.after t') (S'.nxt n (t' S'.slot))) := I.step
    have G2 : Aside (Tb.Good n (S'.after t')) := G.step I H.pos
    have O2 : Aside (Tb.Solo n t0 (S'.after t') (S'.nxt n (t' S'.slot))) := O.step I H.pos
    have k2 : Aside ((S'.nxt n (t' S'.slot)).key = key) := (Tb.nxt_key _).trans hk'.out
    have m2 : Aside (¬ (S'.nxt n (t' S'.slot)).st = 0 → (S'.nxt n (t' S'.slot)).mu + 1 ≤ S'.mu) := fun e => by
      by_cases e0 : S'.st = 0
      · rw [Tb.nxt_done _ e0] at e; exact absurd e0 e
      · exact I.mu_step e0
    have hj2 : Aside (∀ j, j < base ∨ base + n ≤ j → c' j = c j) := hj'
    clear hm ht' hk' I G O hj'
    generalize S'.nxt n (t' S'.slot) = S2 at Ks I2 O2 k2 m2
    generalize S'.after t' = t2 at Ks I2 G2 O2
    by_cases hd : S2.st = 0
    · have hdA : Aside (S2.st = 0) := hd
      rw [decide_eq_true hd] at Ks
      clear hd
      go_wp2_with (first
        | (go_at_call 120; refine Ks.mono ?_; clear Ks; rintro e w1 ⟨rfl, c1, h1, t1, j1, k1, b1⟩))
      go_end0
      exact ⟨rfl, c1, _, _, t2, S2, h1, t1, fun j hj => (j1 j hj).trans (hj2.out j hj), k1, hdA.out, k2.out, I2.out, G2.out, O2.out, M.trans b1⟩
    · have hdA : Aside (¬ S2.st = 0) := hd
      rw [decide_eq_false hd] at Ks
      clear hd
      go_wp2_with (first
        | (go_at_call 120; refine Ks.mono ?_; clear Ks; rintro e w1 ⟨rfl, c1, h1, t1, j1, k1, b1⟩))
      go_roundg (gk - 1)
      case measure => have := hmA.out; omega
      case rel =>
        refine ⟨c1, _, _, t2, S2, ?_, h1, t1, fun j hj => (j1 j hj).trans (hj2.out j hj), k1, k2, I2.out, G2.out, O2.out, M.trans b1⟩
        have := m2.out hdA.out
        have := hmA.out
        omega
/-- An act of the cache, driven. -/
theorem drive_act {S : Ch.Ac} (h : Ch.Sys w P R N T base n c ops fails) (k : Ch.IsAct w A P S) (f : Ch.Fit N S) :
    Calls Tryz.prog 115 #[.func (.func 116) #[.pointer (some ⟨A, 0, none⟩)] #[]] w fun e w' => e = .returned (.tuple #[]) ∧ (∃ o' f', Ch.Sys w' P R N T base n (Ch.runs 16 c S).1 o' f') ∧ Ch.IsAct w' A P (Ch.runs 16 c S).2 ∧ Went (Ch.Foot P R A) w w' := by
  obtain ⟨X, hX⟩ : ∃ X, Ch.runs 16 c S = X := ⟨_, rfl⟩
  have hXA : Aside (∃ g, S.mu ≤ g ∧ Ch.runs g c S = X) := ⟨16, by have := Ch.mu_le S; omega, hX⟩
  rw [hX]
  clear hX
  go_enter Tryz.func115, Tryz.ntmps115
  go_wp2_with fail
  go_loopg [2] (S.mu + 1) (fun g s2 wr => ∃ (c' : Nat → Int) (S' : Ch.Ac), S'.mu + 1 ≤ g ∧ Aside (∃ g, S'.mu ≤ g ∧ Ch.runs g c' S' = X) ∧ Ch.Fit N S' ∧ (∃ o' f', Ch.Sys wr P R N T base n c' o' f') ∧ Ch.IsAct wr A P S' ∧ Went (Ch.Foot P R A) w wr)
  case atStart => exact ⟨c, S, Nat.le_refl _, hXA, f, ⟨_, _, h⟩, k, Went.refl _ _⟩
  case round =>
    obtain ⟨c', S', hm, hr, F, ⟨o', f', H⟩, K, M⟩ := hrel
    clear h k f hXA
    have hmA : Aside (S'.mu + 1 ≤ gk) := hm
    have Ks := Ch.step_any H K F
    have hr2 : Aside (∃ g, (S'.nxt c').mu ≤ g ∧ Ch.runs g (S'.after c') (S'.nxt c') = X) := by
      obtain ⟨g, hg, e⟩ := hr.out
      by_cases e0 : S'.st = 0
      · refine ⟨g, by rw [Ch.nxt0 e0]; exact hg, ?_⟩
        rw [Ch.nxt0 e0, Ch.after0 e0]
        exact e
      · have hmu := F.mu_step (c := c') e0
        obtain ⟨g', rfl⟩ : ∃ g', g = g' + 1 := ⟨g - 1, by omega⟩
        refine ⟨g', by omega, ?_⟩
        rw [Ch.runs_step _ _ e0] at e
        exact e
    have m2 : Aside (¬ (S'.nxt c').st = 0 → (S'.nxt c').mu + 1 ≤ S'.mu) := fun e => by
      by_cases e0 : S'.st = 0
      · rw [Ch.nxt0 e0] at e; exact absurd e0 e
      · exact F.mu_step e0
    have F2 : Ch.Fit N (S'.nxt c') := F.step H.fit
    clear hm hr
    generalize S'.nxt c' = S2 at Ks hr2 F2 m2
    generalize S'.after c' = c2 at Ks hr2
    by_cases hd : S2.st = 0
    · rw [decide_eq_true hd] at Ks
      have hrX : Aside ((c2, S2) = X) := by
        obtain ⟨g, _, e⟩ := hr2.out
        rw [Ch.runs_done _ _ hd] at e
        exact e
      clear hd
      go_wp2_with (first
        | (go_at_call 116; refine Ks.mono ?_; clear Ks; rintro e w1 ⟨rfl, ⟨o1, f1, h1⟩, k1, b1⟩))
      go_end0
      have e := hrX.out
      subst e
      exact ⟨rfl, ⟨_, _, h1⟩, k1, M.trans b1⟩
    · have hdA : Aside (¬ S2.st = 0) := hd
      rw [decide_eq_false hd] at Ks
      clear hd
      go_wp2_with (first
        | (go_at_call 116; refine Ks.mono ?_; clear Ks; rintro e w1 ⟨rfl, h1, k1, b1⟩))
      go_roundg (gk - 1)
      case measure => have := hmA.out; omega
      case rel =>
        refine ⟨c2, S2, ?_, hr2, F2, h1, k1, M.trans b1⟩
        have := m2.out hdA.out
        have := hmA.out
        omega
end
end Go.Proofs.YtdjjelknjojnfaaGreat

namespace Go.Proofs.YtdjjelknjojnfaaGreat

/-- A level, low and high. -/
abbrev Nd := Nat × Nat × Nat
/-- A store: so many variables, which lies at which level, its room, its inner nodes by their handles. -/
structure Mdl where
  n : Nat
  v : Nat → Nat
  room : Nat
  hs : List Nat
  nd : Nat → Nd

namespace Mdl
def isNode (M : Mdl) (h : Nat) : Prop := h < 2 ∨ h ∈ M.hs
/-- Whether it is one. -/
def nodeB (M : Mdl) (h : Nat) : Bool := decide (h < 2 ∨ h ∈ M.hs)
theorem nodeB_true {M : Mdl} {h : Nat} (hh : M.isNode h) : M.nodeB h = true := decide_eq_true hh
theorem nodeB_false {M : Mdl} {h : Nat} (hh : ¬ M.isNode h) : M.nodeB h = false := decide_eq_false hh
def lev (M : Mdl) (h : Nat) : Nat := if h < 2 then M.n else (M.nd h).1
/-- The function of a handle at an assignment, looked for so deep. -/
def den (M : Mdl) : Nat → Nat → (Nat → Bool) → Bool
  | 0, h, _ => decide (h = 1)
  | f + 1, h, a => if h < 2 then decide (h = 1) else if a (M.v (M.nd h).1) = true then M.den f (M.nd h).2.2 a else M.den f (M.nd h).2.1 a
def val (M : Mdl) (h : Nat) (a : Nat → Bool) : Bool := M.den M.n h a

structure Ok (M : Mdl) : Prop where
  pos : 1 ≤ M.n
  le8 : M.n ≤ 8
  vlt : ∀ i, i < M.n → M.v i < M.n
  vinj : ∀ i j, i < M.n → j < M.n → M.v i = M.v j → i = j
  sorted : M.hs.Pairwise (· < ·)
  range : ∀ h ∈ M.hs, 2 ≤ h ∧ h < 268435456
  len : M.hs.length ≤ M.room
  lv : ∀ h ∈ M.hs, (M.nd h).1 < M.n
  ne : ∀ h ∈ M.hs, (M.nd h).2.1 ≠ (M.nd h).2.2
  lo : ∀ h ∈ M.hs, M.isNode (M.nd h).2.1 ∧ (M.nd h).1 < M.lev (M.nd h).2.1
  hi : ∀ h ∈ M.hs, M.isNode (M.nd h).2.2 ∧ (M.nd h).1 < M.lev (M.nd h).2.2
  one : ∀ h ∈ M.hs, ∀ k ∈ M.hs, M.nd h = M.nd k → h = k

section
variable {M : Mdl}
theorem lev_in (o : M.Ok) {h : Nat} (hh : h ∈ M.hs) : M.lev h = (M.nd h).1 := by
  unfold lev; rw [if_neg]; have := (o.range h hh).1; omega
theorem lev_const {h : Nat} (hh : h < 2) : M.lev h = M.n := by unfold lev; rw [if_pos hh]
theorem lev_le (o : M.Ok) {h : Nat} (hh : M.isNode h) : M.lev h ≤ M.n := by
  rcases hh with e | e
  · rw [lev_const e]; exact Nat.le_refl _
  · rw [lev_in o e]; exact Nat.le_of_lt (o.lv h e)
theorem inner_of_lev {h : Nat} (hh : M.isNode h) (hl : M.lev h < M.n) : h ∈ M.hs := by
  rcases hh with e | e
  · rw [lev_const e] at hl; omega
  · exact e
theorem isNode_lt (o : M.Ok) {h : Nat} (hh : M.isNode h) : h < 268435456 := by
  rcases hh with e | e
  · omega
  · exact (o.range h e).2
theorem den_const (f : Nat) {h : Nat} (hh : h < 2) (a : Nat → Bool) : M.den f h a = decide (h = 1) := by
  cases f with
  | zero => rfl
  | succ f => rw [den, if_pos hh]
theorem den_in (f : Nat) {h : Nat} (hh : ¬ h < 2) (a : Nat → Bool) : M.den (f + 1) h a = if a (M.v (M.nd h).1) = true then M.den f (M.nd h).2.2 a else M.den f (M.nd h).2.1 a := by
  rw [den, if_neg hh]
theorem den_more (o : M.Ok) (a : Nat → Bool) : ∀ (f h : Nat), M.isNode h → M.n - M.lev h ≤ f → M.den (f + 1) h a = M.den f h a
  | 0, h, hh, hf => by
    have hl : M.lev h = M.n := by have := lev_le o hh; omega
    have hc : h < 2 := by
      rcases hh with e | e
      · exact e
      · have := o.lv h e; rw [lev_in o e] at hl; omega
    rw [den_const _ hc, den_const _ hc]
  | f + 1, h, hh, hf => by
    by_cases hc : h < 2
    · rw [den_const _ hc, den_const _ hc]
    · have hm : h ∈ M.hs := hh.resolve_left hc
      have l1 := o.lo h hm
      have l2 := o.hi h hm
      rw [lev_in o hm] at hf
      rw [den_in _ hc, den_in _ hc, den_more o a f _ l1.1 (by omega), den_more o a f _ l2.1 (by omega)]
theorem val_const {h : Nat} (hh : h < 2) (a : Nat → Bool) : M.val h a = decide (h = 1) := den_const _ hh a
theorem val_zero (a : Nat → Bool) : M.val 0 a = false := val_const (by omega) a
theorem val_one (a : Nat → Bool) : M.val 1 a = true := val_const (by omega) a
/-- What an inner node is. -/
theorem val_in (o : M.Ok) {h : Nat} (hm : h ∈ M.hs) (a : Nat → Bool) : M.val h a = if a (M.v (M.nd h).1) = true then M.val (M.nd h).2.2 a else M.val (M.nd h).2.1 a := by
  have hc : ¬ h < 2 := by have := (o.range h hm).1; omega
  have l1 := o.lo h hm
  have l2 := o.hi h hm
  have hp := o.pos
  obtain ⟨m, hm'⟩ : ∃ m, M.n = m + 1 := ⟨M.n - 1, by omega⟩
  unfold val
  rw [hm', den_in _ hc, den_more o a m _ l1.1 (by omega), den_more o a m _ l2.1 (by omega)]
/-- It hangs on the variables of its level and those deeper alone. -/
theorem val_congr (o : M.Ok) (d : Nat) : ∀ {h : Nat} {a b : Nat → Bool}, M.isNode h → M.n - M.lev h ≤ d → (∀ j, M.lev h ≤ j → j < M.n → a (M.v j) = b (M.v j)) → M.val h a = M.val h b := by
  induction d with
  | zero =>
    intro h a b hh hd _
    by_cases hc : h < 2
    · rw [val_const hc, val_const hc]
    · have hm : h ∈ M.hs := hh.resolve_left hc
      have := o.lv h hm
      rw [lev_in o hm] at hd
      omega
  | succ d ih =>
    intro h a b hh hd hab
    by_cases hc : h < 2
    · rw [val_const hc, val_const hc]
    · have hm : h ∈ M.hs := hh.resolve_left hc
      have l0 := o.lv h hm
      have l1 := o.lo h hm
      have l2 := o.hi h hm
      rw [lev_in o hm] at hd hab
      rw [val_in o hm, val_in o hm, hab _ (Nat.le_refl _) l0]
      rw [ih l1.1 (by omega) (fun j hj hn => hab j (by omega) hn), ih l2.1 (by omega) (fun j hj hn => hab j (by omega) hn)]
end

/-- An assignment with one variable turned. -/
def setA (a : Nat → Bool) (i : Nat) (b : Bool) : Nat → Bool := fun j => if j = i then b else a j
theorem setA_same (a : Nat → Bool) (i : Nat) (b : Bool) : setA a i b i = b := if_pos rfl
theorem setA_other (a : Nat → Bool) {i j : Nat} (b : Bool) (h : j ≠ i) : setA a i b j = a j := if_neg h

section
variable {M : Mdl}
theorem val_set (o : M.Ok) {h i : Nat} (hh : M.isNode h) (hi : i < M.lev h) (hn : i < M.n) (a : Nat → Bool) (b : Bool) : M.val h (setA a (M.v i) b) = M.val h a :=
  val_congr o _ hh (Nat.le_refl _) fun j hj hjn => setA_other _ _ fun e => by have := o.vinj j i hjn hn e; omega
theorem val_lo (o : M.Ok) {h : Nat} (hm : h ∈ M.hs) (a : Nat → Bool) : M.val h (setA a (M.v (M.nd h).1) false) = M.val (M.nd h).2.1 a := by
  rw [val_in o hm, setA_same, if_neg (by simp)]
  exact val_set o (o.lo h hm).1 (o.lo h hm).2 (o.lv h hm) a false
theorem val_hi (o : M.Ok) {h : Nat} (hm : h ∈ M.hs) (a : Nat → Bool) : M.val h (setA a (M.v (M.nd h).1) true) = M.val (M.nd h).2.2 a := by
  rw [val_in o hm, setA_same, if_pos rfl]
  exact val_set o (o.hi h hm).1 (o.hi h hm).2 (o.lv h hm) a true
/-- Two nodes of one function are one. -/
theorem canon (o : M.Ok) (d : Nat) : ∀ {h k : Nat}, M.isNode h → M.isNode k → M.n - M.lev h ≤ d → M.n - M.lev k ≤ d → (∀ a, M.val h a = M.val k a) → h = k := by
  have deeper : ∀ (d : Nat), (∀ {h k : Nat}, M.isNode h → M.isNode k → M.n - M.lev h ≤ d → M.n - M.lev k ≤ d → (∀ a, M.val h a = M.val k a) → h = k) → ∀ {h k : Nat}, h ∈ M.hs → M.isNode k → M.n - M.lev h ≤ d + 1 → M.lev h < M.lev k → (∀ a, M.val h a = M.val k a) → False := by
    intro d ih h k hm hk hd hl e
    have l0 := o.lv h hm
    have l1 := o.lo h hm
    have l2 := o.hi h hm
    rw [lev_in o hm] at hd hl
    refine o.ne h hm (ih l1.1 l2.1 (by omega) (by omega) fun a => ?_)
    rw [← val_lo o hm, ← val_hi o hm, e, e, val_set o hk hl l0, val_set o hk hl l0]
  induction d with
  | zero =>
    intro h k hh hk hd hd' e
    have hc : h < 2 := by
      rcases hh with c | c
      · exact c
      · have := o.lv h c; rw [lev_in o c] at hd; omega
    have kc : k < 2 := by
      rcases hk with c | c
      · exact c
      · have := o.lv k c; rw [lev_in o c] at hd'; omega
    have := e fun _ => false
    rw [val_const hc, val_const kc] at this
    by_cases h1 : h = 1 <;> by_cases k1 : k = 1 <;> simp [h1, k1] at this <;> omega
  | succ d ih =>
    intro h k hh hk hd hd' e
    rcases Nat.lt_trichotomy (M.lev h) (M.lev k) with c | c | c
    · have hm := inner_of_lev hh (Nat.lt_of_lt_of_le c (lev_le o hk))
      exact (deeper d (fun a b c d e => ih a b c d e) hm hk hd c e).elim
    · by_cases hn : M.lev h < M.n
      · have hm := inner_of_lev hh hn
        have km := inner_of_lev hk (by omega)
        have hl := lev_in o hm
        have kl := lev_in o km
        have l0 := o.lv h hm
        have l1 := o.lo h hm
        have l2 := o.hi h hm
        have k1 := o.lo k km
        have k2 := o.hi k km
        have lv : (M.nd h).1 = (M.nd k).1 := by omega
        have e1 : (M.nd h).2.1 = (M.nd k).2.1 := ih l1.1 k1.1 (by omega) (by omega) fun a => by
          rw [← val_lo o hm, ← val_lo o km, lv]; exact e _
        have e2 : (M.nd h).2.2 = (M.nd k).2.2 := ih l2.1 k2.1 (by omega) (by omega) fun a => by
          rw [← val_hi o hm, ← val_hi o km, lv]; exact e _
        exact o.one h hm k km (Prod.ext lv (Prod.ext e1 e2))
      · have hc : h < 2 := by
          rcases hh with x | x
          · exact x
          · have := o.lv h x; rw [lev_in o x] at hn; omega
        have kc : k < 2 := by
          rcases hk with x | x
          · exact x
          · have := o.lv k x; rw [lev_in o x] at c; omega
        have := e fun _ => false
        rw [val_const hc, val_const kc] at this
        by_cases h1 : h = 1 <;> by_cases k1 : k = 1 <;> simp [h1, k1] at this <;> omega
    · have km := inner_of_lev hk (Nat.lt_of_lt_of_le c (lev_le o hh))
      exact (deeper d (fun a b c d e => ih a b c d e) km hh hd' c fun a => (e a).symm).elim
theorem val_one_iff (o : M.Ok) {h k : Nat} (hh : M.isNode h) (hk : M.isNode k) : (∀ a, M.val h a = M.val k a) ↔ h = k :=
  ⟨fun e => canon o M.n hh hk (by omega) (by omega) e, fun e _ => by rw [e]⟩
end

/-! ## Assignments as numbers -/
theorem exists_num (a : Nat → Bool) : ∀ m : Nat, ∃ x : Nat, x < 2 ^ m ∧ ∀ i, i < m → x.testBit i = a i
  | 0 => ⟨0, by simp, fun i hi => absurd hi (Nat.not_lt_zero _)⟩
  | m + 1 => by
    obtain ⟨x, hx, e⟩ := exists_num a m
    cases hm : a m with
    | false =>
      refine ⟨x, by rw [Nat.pow_succ]; omega, fun i hi => ?_⟩
      by_cases c : i = m
      · rw [c, hm]; exact Nat.testBit_lt_two_pow hx
      · exact e i (by omega)
    | true =>
      refine ⟨2 ^ m + x, by rw [Nat.pow_succ]; omega, fun i hi => ?_⟩
      by_cases c : i = m
      · rw [c, hm, Nat.testBit_two_pow_add_eq, Nat.testBit_lt_two_pow hx]; rfl
      · rw [Nat.testBit_two_pow_add_gt (by omega)]; exact e i (by omega)
section
variable {M : Mdl}
/-- The function of a node as a table. -/
def tbl (M : Mdl) (h x : Nat) : Bool := M.val h x.testBit
theorem val_num (o : M.Ok) (a : Nat → Bool) : ∃ x, x < 256 ∧ ∀ k, M.isNode k → M.val k a = M.tbl k x := by
  obtain ⟨x, hx, e⟩ := exists_num a 8
  exact ⟨x, by simpa using hx, fun k hk => val_congr o _ hk (Nat.le_refl _) fun j _ hj => (e _ (by have := o.vlt j hj; have := o.le8; omega)).symm⟩
theorem one_iff (o : M.Ok) {h k : Nat} (hh : M.isNode h) (hk : M.isNode k) : (∀ x, x < 256 → M.tbl h x = M.tbl k x) ↔ h = k := by
  refine ⟨fun e => (val_one_iff o hh hk).1 fun a => ?_, fun e _ _ => by rw [e]⟩
  obtain ⟨x, hx, q⟩ := val_num o a
  rw [q h hh, q k hk, e x hx]
end

/-! ## A node more -/
/-- All that was there is there, and is what it was. -/
structure Grew (M M' : Mdl) : Prop where
  n : M'.n = M.n
  v : M'.v = M.v
  room : M'.room = M.room
  keep : ∀ h ∈ M.hs, h ∈ M'.hs ∧ M'.nd h = M.nd h
section
variable {M M' M'' : Mdl}
theorem Grew.refl (M : Mdl) : Grew M M := ⟨rfl, rfl, rfl, fun _ h => ⟨h, rfl⟩⟩
theorem Grew.trans (h : Grew M M') (k : Grew M' M'') : Grew M M'' :=
  ⟨k.n.trans h.n, k.v.trans h.v, k.room.trans h.room, fun x hx => ⟨(k.keep x (h.keep x hx).1).1, (k.keep x (h.keep x hx).1).2.trans (h.keep x hx).2⟩⟩
theorem Grew.isNode (h : Grew M M') {x : Nat} (hx : M.isNode x) : M'.isNode x := hx.imp id fun e => (h.keep x e).1
theorem Grew.lev (h : Grew M M') {x : Nat} (hx : M.isNode x) : M'.lev x = M.lev x := by
  unfold Mdl.lev
  by_cases c : x < 2
  · rw [if_pos c, if_pos c, h.n]
  · rw [if_neg c, if_neg c, (h.keep x (hx.resolve_left c)).2]
theorem Grew.den (h : Grew M M') (o : M.Ok) (a : Nat → Bool) : ∀ (f x : Nat), M.isNode x → M'.den f x a = M.den f x a
  | 0, _, _ => rfl
  | f + 1, x, hx => by
    rw [Mdl.den, Mdl.den]
    by_cases c : x < 2
    · rw [if_pos c, if_pos c]
    · have hm := hx.resolve_left c
      rw [if_neg c, if_neg c, (h.keep x hm).2, h.v, Grew.den h o a f _ (o.lo x hm).1, Grew.den h o a f _ (o.hi x hm).1]
theorem Grew.val (h : Grew M M') (o : M.Ok) {x : Nat} (hx : M.isNode x) (a : Nat → Bool) : M'.val x a = M.val x a := by
  unfold Mdl.val; rw [h.n]; exact h.den o a _ _ hx
theorem Grew.tbl (h : Grew M M') (o : M.Ok) {x : Nat} (hx : M.isNode x) (y : Nat) : M'.tbl x y = M.tbl x y := h.val o hx _
end
/-- One node more. -/
structure Adds (M : Mdl) (h : Nat) (d : Nd) (M' : Mdl) : Prop where
  n : M'.n = M.n
  v : M'.v = M.v
  room : M'.room = M.room
  new : h ∉ M.hs
  mem : ∀ k, k ∈ M'.hs ↔ k = h ∨ k ∈ M.hs
  len : M'.hs.length = M.hs.length + 1
  nd : ∀ k, M'.nd k = if k = h then d else M.nd k
theorem Adds.grew {M M' : Mdl} {h : Nat} {d : Nd} (a : Adds M h d M') : Grew M M' :=
  ⟨a.n, a.v, a.room, fun k hk => ⟨(a.mem k).2 (.inr hk), by rw [a.nd, if_neg]; intro e; exact a.new (e ▸ hk)⟩⟩
theorem Adds.at {M M' : Mdl} {h : Nat} {d : Nd} (a : Adds M h d M') : h ∈ M'.hs ∧ M'.nd h = d := ⟨(a.mem h).2 (.inl rfl), by rw [a.nd, if_pos rfl]⟩
/-- A node may be made: its level is one, its children are nodes that lie deeper, and unlike. -/
structure Fits (M : Mdl) (d : Nd) : Prop where
  lv : d.1 < M.n
  ne : d.2.1 ≠ d.2.2
  lo : M.isNode d.2.1 ∧ d.1 < M.lev d.2.1
  hi : M.isNode d.2.2 ∧ d.1 < M.lev d.2.2
theorem Ok.adds {M M' : Mdl} {h : Nat} {d : Nd} (o : M.Ok) (a : Adds M h d M') (f : M.Fits d) (no : ∀ k ∈ M.hs, M.nd k ≠ d) (hr : 2 ≤ h ∧ h < 268435456) (room : M.hs.length < M.room) (so : M'.hs.Pairwise (· < ·)) : M'.Ok := by
  have g := a.grew
  have old : ∀ k ∈ M.hs, M'.nd k = M.nd k := fun k hk => (g.keep k hk).2
  refine ⟨by rw [a.n]; exact o.pos, by rw [a.n]; exact o.le8, by rw [a.n, a.v]; exact o.vlt, by rw [a.n, a.v]; exact o.vinj, so, fun k hk => ?_, by rw [a.len, a.room]; omega, fun k hk => ?_, fun k hk => ?_, fun k hk => ?_, fun k hk => ?_, fun k hk q hq e => ?_⟩
  · rcases (a.mem k).1 hk with rfl | c
    · exact hr
    · exact o.range k c
  · rw [a.n]
    rcases (a.mem k).1 hk with rfl | c
    · rw [a.at.2]; exact f.lv
    · rw [old k c]; exact o.lv k c
  · rcases (a.mem k).1 hk with rfl | c
    · rw [a.at.2]; exact f.ne
    · rw [old k c]; exact o.ne k c
  · rcases (a.mem k).1 hk with rfl | c
    · rw [a.at.2]; exact ⟨g.isNode f.lo.1, by rw [g.lev f.lo.1]; exact f.lo.2⟩
    · rw [old k c]; exact ⟨g.isNode (o.lo k c).1, by rw [g.lev (o.lo k c).1]; exact (o.lo k c).2⟩
  · rcases (a.mem k).1 hk with rfl | c
    · rw [a.at.2]; exact ⟨g.isNode f.hi.1, by rw [g.lev f.hi.1]; exact f.hi.2⟩
    · rw [old k c]; exact ⟨g.isNode (o.hi k c).1, by rw [g.lev (o.hi k c).1]; exact (o.hi k c).2⟩
  · rcases (a.mem k).1 hk with rfl | c <;> rcases (a.mem q).1 hq with rfl | c'
    · rfl
    · rw [a.at.2, old q c'] at e; exact absurd e.symm (no q c')
    · rw [a.at.2, old k c] at e; exact absurd e (no k c)
    · rw [old k c, old q c'] at e; exact o.one k c q c' e
/-- What the new node is. -/
theorem Adds.val {M M' : Mdl} {h : Nat} {d : Nd} (a : Adds M h d M') (o : M.Ok) (o' : M'.Ok) (f : M.Fits d) (s : Nat → Bool) : M'.val h s = if s (M.v d.1) = true then M.val d.2.2 s else M.val d.2.1 s := by
  rw [val_in o' a.at.1, a.at.2, a.v, a.grew.val o f.hi.1, a.grew.val o f.lo.1]
end Mdl
end Go.Proofs.YtdjjelknjojnfaaGreat

namespace Go.Proofs.YtdjjelknjojnfaaGreat
open Go Go.RowKit

/-- What lies where, and what the cells hold. -/
structure Ins where
  P : Nat
  R : Nat
  mp : Nat
  ad : Option Addr
  cap : Nat
  lines : Nat
  c : Nat → Int
  wd : Nat → Int
  nm : Int → Option Int
  l : Nat → Nat
  on : Bool

/-- The cells of a store. -/
def stCell (n : Nat) (v l : Nat → Nat) (room : Nat) (ad : Option Addr) (L cap P mp lines : Nat) (on : Bool) (i : Nat) : Value :=
  if i < 17 then Od.ordCell n v l i
  else if i = 17 then .int .i64 (room : Int)
  else if i = 18 then .slice ad L cap
  else if i = 19 then .pointer (some ⟨P, 0, none⟩)
  else if i = 20 then .int .i64 0
  else if i = 21 then .int .i64 ((2 * room : Nat) : Int)
  else if i = 22 then .map (some mp)
  else if i = 23 then .pointer (some ⟨P, 0, none⟩)
  else if i = 24 then .int .i64 ((2 * room : Nat) : Int)
  else if i = 25 then .int .i64 (lines : Int)
  else .bool on

/-- A node's word. -/
def ndZ (d : Nd) : Int := nodeZ (d.1 : Int) (d.2.1 : Int) (d.2.2 : Int)

/-- What holds of a store's cells, without a memory. -/
structure Pu (M : Mdl) (I : Ins) : Prop where
  ok : M.Ok
  inv : ∀ i, i < M.n → I.l (M.v i) = i
  room1 : 1 ≤ M.room
  room2 : M.room ≤ 32768
  lines1 : 1 ≤ I.lines
  lines2 : I.lines ≤ 1024
  hs : M.hs = List.range' 2 M.hs.length
  wd : ∀ i, i < M.hs.length → I.wd i = ndZ (M.nd (i + 2))
  fit : Ch.U64 I.c
  good : Tb.Good (2 * M.room) I.c
  tab : ∀ s, s < 2 * M.room → ¬ I.c s = 0 → ∃ i, i < M.hs.length ∧ I.c s = I.wd i ∧ I.nm (s : Int) = some ((i : Int) + 2)
  all : ∀ i, i < M.hs.length → ∃ s, s < 2 * M.room ∧ I.c s = I.wd i
  cnt : Tb.cnt I.c (2 * M.room) = M.hs.length
  cch : ∀ key, 0 ≤ key → key ≤ 18446744073709551615 → Ch.Hits I.c (Ch.line (2 * M.room) I.lines key) key → ∃ i, i < M.hs.length ∧ key = I.wd i ∧ Ch.jn (Ch.lo (I.c (Ch.line (2 * M.room) I.lines key + 2))) (Ch.lo (I.c (Ch.line (2 * M.room) I.lines key + 3))) = (i : Int) + 2

/-- A store at S. -/
structure StI (w : World) (S : Nat) (M : Mdl) (I : Ins) : Prop where
  blk : w.rowIs S 87 27 (stCell M.n M.v I.l M.room I.ad M.hs.length I.cap I.P I.mp I.lines I.on)
  mem : ∃ o f, IsMem w I.P I.R (2 * M.room + 4 * I.lines) I.c o f
  own : OwnR 40 w 0 I.ad M.hs.length I.cap (fun i => .int .u64 (I.wd i))
  map : IsMap w I.mp I.nm
  pu : Pu M I

/-- The blocks of a store. -/
def Fp (S : Nat) (I : Ins) (k : Nat) : Prop := k = S ∨ k = I.P ∨ k = I.R ∨ k = I.mp ∨ At I.ad k

section
variable {w w' : World} {S : Nat} {M : Mdl} {I : Ins}
theorem Pu.mem_iff (p : Pu M I) {x : Nat} : x ∈ M.hs ↔ 2 ≤ x ∧ x < 2 + M.hs.length := by
  have h := p.hs
  generalize M.hs.length = L at h ⊢
  rw [h, List.mem_range'_1]
theorem Pu.node_iff (p : Pu M I) {x : Nat} : M.isNode x ↔ x < 2 + M.hs.length := by
  unfold Mdl.isNode
  rw [p.mem_iff]
  omega
theorem Pu.len (p : Pu M I) : M.hs.length ≤ 32768 := by have := p.ok.len; have := p.room2; omega

theorem StI.cell (h : StI w S M I) {i : Nat} (hi : i < 27) : w.cell? ⟨S, i, none⟩ = some (stCell M.n M.v I.l M.room I.ad M.hs.length I.cap I.P I.mp I.lines I.on i) := h.blk.cell hi
theorem StI.free (h : StI w S M I) (i : Nat) : w.frozen? ⟨S, i, none⟩ = false := h.blk.frozen i
theorem StI.c0 (h : StI w S M I) : w.cell? ⟨S, 0, none⟩ = some (.int .i64 (M.n : Int)) := h.cell (i := 0) (by omega)
theorem StI.c17 (h : StI w S M I) : w.cell? ⟨S, 17, none⟩ = some (.int .i64 (M.room : Int)) := h.cell (i := 17) (by omega)
theorem StI.c18 (h : StI w S M I) : w.cell? ⟨S, 18, none⟩ = some (.slice I.ad M.hs.length I.cap) := h.cell (i := 18) (by omega)
theorem StI.c22 (h : StI w S M I) : w.cell? ⟨S, 22, none⟩ = some (.map (some I.mp)) := h.cell (i := 22) (by omega)
theorem StI.c26 (h : StI w S M I) : w.cell? ⟨S, 26, none⟩ = some (.bool I.on) := h.cell (i := 26) (by omega)
theorem StI.ordc (h : StI w S M I) {i : Nat} (hi : i < 17) : w.cell? ⟨S, i, none⟩ = some (Od.ordCell M.n M.v I.l i) := by
  rw [h.cell (by omega)]
  unfold stCell
  rw [if_pos hi]
theorem StI.kind (h : StI w S M I) : ∃ cs, w.heap[S]? = some (.cells cs 87 (0, 0)) := by obtain ⟨cs, hb, _⟩ := h.blk; exact ⟨cs, hb⟩
theorem StI.ltS (h : StI w S M I) : S < w.heap.size := h.blk.lt
theorem StI.lt (h : StI w S M I) : ∀ k, Fp S I k → k < w.heap.size := by
  obtain ⟨o, f, m⟩ := h.mem
  rintro k (rfl | rfl | rfl | rfl | e)
  · exact h.ltS
  · exact m.ltP
  · exact m.ltR
  · exact h.map.lt
  · exact (h.own.block k e).2
/-- What a store's blocks are. -/
def stKind (o : Obj) : Prop := (∃ cs t, o = .cells cs t (0, 0) ∧ (t = 87 ∨ t = 126 ∨ t = 166 ∨ t = 40)) ∨ ∃ es ck, o = .map es ck
theorem StI.kinds (h : StI w S M I) : ∀ k, Fp S I k → ∃ o, w.heap[k]? = some o ∧ stKind o := by
  obtain ⟨o, f, m⟩ := h.mem
  rintro k (rfl | rfl | rfl | rfl | e)
  · obtain ⟨cs, hb⟩ := h.kind
    exact ⟨_, hb, .inl ⟨cs, _, rfl, .inl rfl⟩⟩
  · exact ⟨_, m.head, .inl ⟨_, _, rfl, .inr (.inl rfl)⟩⟩
  · obtain ⟨cs, hb, _⟩ := m.row
    exact ⟨_, hb, .inl ⟨cs, _, rfl, .inr (.inr (.inl rfl))⟩⟩
  · obtain ⟨es, ck, l, hb, _⟩ := h.map
    exact ⟨_, hb, .inr ⟨es, ck, rfl⟩⟩
  · obtain ⟨cur, hb⟩ := h.own.kind k e
    exact ⟨_, hb, .inl ⟨cur, _, rfl, .inr (.inr (.inr rfl))⟩⟩
/-- What others did to their own blocks leaves a store alone. -/
theorem StI.kept (h : StI w S M I) (k : ∀ b, Fp S I b → w'.heap[b]? = w.heap[b]?) : StI w' S M I := by
  obtain ⟨o, f, m⟩ := h.mem
  exact ⟨h.blk.of_block (k _ (.inl rfl)), ⟨o, f, m.of_blocks (k _ (.inr (.inl rfl))) (k _ (.inr (.inr (.inl rfl))))⟩, h.own.kept fun b hb => k b (.inr (.inr (.inr (.inr hb)))), h.map.same (k _ (.inr (.inr (.inr (.inl rfl))))), h.pu⟩
theorem StI.below (h : StI w S M I) (k : Below w.heap.size w w') : StI w' S M I := h.kept fun b hb => k.block b (h.lt b hb)
theorem StI.new (h : StI w S M I) (o : Obj) : StI (w.alloc o) S M I := h.kept fun b hb => Below.heap_alloc _ _ _ (h.lt b hb)
theorem StI.drew (h : StI w S M I) : StI w.drew S M I := h.kept fun _ _ => rfl

/-- A store as its table sees it. -/
theorem StI.tb (h : StI w S M I) : ∃ o f, Tb.Sys w I.P I.R (2 * M.room + 4 * I.lines) S 0 (2 * M.room) I.c o f := by
  obtain ⟨o, f, m⟩ := h.mem
  obtain ⟨cs, hb, hs, hc⟩ := h.blk
  have r1 := h.pu.room1
  have r2 := h.pu.room2
  have l2 := h.pu.lines2
  exact ⟨o, f, m, ⟨cs, hb, hc 19 (by omega), hc 20 (by omega), hc 21 (by omega)⟩, by omega, by omega, by omega⟩
/-- A store as its cache sees it. -/
theorem StI.ch (h : StI w S M I) : ∃ o f, Ch.Sys w I.P I.R (2 * M.room + 4 * I.lines) S (2 * M.room) I.lines I.c o f := by
  obtain ⟨o, f, m⟩ := h.mem
  obtain ⟨cs, hb, hs, hc⟩ := h.blk
  have r2 := h.pu.room2
  have l1 := h.pu.lines1
  have l2 := h.pu.lines2
  exact ⟨o, f, m, ⟨cs, hb, hc 23 (by omega), hc 24 (by omega), hc 25 (by omega)⟩, by omega, by omega, by omega, h.pu.fit⟩

theorem vars_any (h : StI w S M I) :
    Calls Tryz.prog 42 #[.pointer (some ⟨S, 0, none⟩)] w fun e w' => e = .returned (.int .i64 (M.n : Int)) ∧ w' = w := by
  have K := Od.slen_any h.c0
  go_enter Tryz.func42, Tryz.ntmps42
  go_wp2_with (first
    | (go_at_call 71; refine K.mono ?_; clear K; rintro e w ⟨rfl, rfl⟩))
  go_ret
  exact ⟨rfl, rfl⟩
theorem room_any (h : StI w S M I) :
    Calls Tryz.prog 52 #[.pointer (some ⟨S, 0, none⟩)] w fun e w' => e = .returned (.int .i64 (M.room : Int)) ∧ w' = w := by
  have c := h.c17
  go_enter Tryz.func52, Tryz.ntmps52
  go_wp2
  go_ret
  exact ⟨rfl, rfl⟩
theorem slen_any (h : StI w S M I) :
    Calls Tryz.prog 51 #[.pointer (some ⟨S, 0, none⟩)] w fun e w' => e = .returned (.int .i64 (M.hs.length : Int)) ∧ w' = w := by
  have c := h.c18
  go_enter Tryz.func51, Tryz.ntmps51
  go_wp2
  go_ret
  exact ⟨rfl, rfl⟩
theorem is_any (h : StI w S M I) (x : Nat) (hx : x < 4294967296) :
    Calls Tryz.prog 31 #[.pointer (some ⟨S, 0, none⟩), .int .u32 (x : Int)] w fun e w' => e = .returned (.bool (M.nodeB x)) ∧ w' = w := by
  have c := h.c18
  have hl := h.pu.len
  by_cases hn : M.isNode x
  · rw [Mdl.nodeB_true hn]
    have hi : (x : Int) < 2 + (M.hs.length : Int) := by have := h.pu.node_iff.1 hn; omega
    clear hn
    generalize M.hs.length = L at c hl hi
    go_enter Tryz.func31, Tryz.ntmps31
    go_wp2
    go_ret
    exact ⟨rfl, rfl⟩
  · rw [Mdl.nodeB_false hn]
    have hi : ¬ (x : Int) < 2 + (M.hs.length : Int) := fun e => hn (h.pu.node_iff.2 (by omega))
    clear hn
    generalize M.hs.length = L at c hl hi
    go_enter Tryz.func31, Tryz.ntmps31
    go_wp2
    go_ret
    exact ⟨rfl, rfl⟩
end
end Go.Proofs.YtdjjelknjojnfaaGreat

namespace Go.Proofs.YtdjjelknjojnfaaGreat
open Go Go.RowKit

namespace Mdl
def levI (M : Mdl) (x : Nat) : Int := if x < 2 ∨ x ∈ M.hs then (M.lev x : Int) else -1
def lowN (M : Mdl) (x : Nat) : Nat := if x < 2 then x else if x ∈ M.hs then (M.nd x).2.1 else 0
def highN (M : Mdl) (x : Nat) : Nat := if x < 2 then x else if x ∈ M.hs then (M.nd x).2.2 else 0
section
variable {M : Mdl} {x : Nat}
theorem levI_const (h : x < 2) : M.levI x = (M.n : Int) := by unfold levI; rw [if_pos (.inl h), lev_const h]
theorem levI_in (o : M.Ok) (h : x ∈ M.hs) : M.levI x = ((M.nd x).1 : Int) := by unfold levI; rw [if_pos (.inr h), lev_in o h]
theorem levI_none (h : ¬ M.isNode x) : M.levI x = -1 := by unfold levI; exact if_neg h
theorem levI_node (h : M.isNode x) : M.levI x = (M.lev x : Int) := by unfold levI; exact if_pos h
theorem lowN_const (h : x < 2) : M.lowN x = x := by unfold lowN; rw [if_pos h]
theorem highN_const (h : x < 2) : M.highN x = x := by unfold highN; rw [if_pos h]
theorem lowN_in (o : M.Ok) (h : x ∈ M.hs) : M.lowN x = (M.nd x).2.1 := by
  unfold lowN; rw [if_neg (by have := (o.range x h).1; omega), if_pos h]
theorem highN_in (o : M.Ok) (h : x ∈ M.hs) : M.highN x = (M.nd x).2.2 := by
  unfold highN; rw [if_neg (by have := (o.range x h).1; omega), if_pos h]
theorem lowN_none (h : ¬ M.isNode x) : M.lowN x = 0 := by unfold lowN; rw [if_neg (fun e => h (.inl e)), if_neg (fun e => h (.inr e))]
theorem highN_none (h : ¬ M.isNode x) : M.highN x = 0 := by unfold highN; rw [if_neg (fun e => h (.inl e)), if_neg (fun e => h (.inr e))]
end
end Mdl

section
variable {w w' : World} {S : Nat} {M : Mdl} {I : Ins}
theorem Pu.word (p : Pu M I) {j : Nat} (hj : j < M.hs.length) : j + 2 ∈ M.hs ∧ 0 < I.wd j ∧ I.wd j ≤ 18446744073709551615 ∧ I.wd j / 72057594037927936 = ((M.nd (j + 2)).1 : Int) ∧ I.wd j / 268435456 % 268435456 = ((M.nd (j + 2)).2.1 : Int) ∧ I.wd j % 268435456 = ((M.nd (j + 2)).2.2 : Int) := by
  have hm : j + 2 ∈ M.hs := p.mem_iff.2 (by omega)
  have o := p.ok
  have hl := o.lv _ hm
  have h8 := o.le8
  have h1 := Mdl.isNode_lt o (o.lo _ hm).1
  have h2 := Mdl.isNode_lt o (o.hi _ hm).1
  have hne := o.ne _ hm
  rw [p.wd j hj]
  unfold ndZ
  refine ⟨hm, nodeZ_pos h1 h2 hne, (nodeZ_bd _ _ _ (by omega)).2, part0 _ _ _, ?_, ?_⟩
  · rw [part1]; omega
  · rw [part2]; omega
theorem parts_any (h : StI w S M I) (x : Nat) (hx : x < 4294967296) :
    Calls Tryz.prog 75 #[.pointer (some ⟨S, 0, none⟩), .int .u32 (x : Int)] w fun e w' => e = .returned (.tuple #[.int .i64 (M.levI x), .int .u32 (M.lowN x : Int), .int .u32 (M.highN x : Int)]) ∧ w' = w := by
  by_cases hc : x < 2
  · rw [Mdl.levI_const hc, Mdl.lowN_const hc, Mdl.highN_const hc]
    have K := vars_any h
    have hc' : (x : Int) < 2 := by omega
    clear hc
    go_enter Tryz.func75, Tryz.ntmps75
    go_wp2_with (first
      | (go_at_call 42; refine K.mono ?_; clear K; rintro e w ⟨rfl, rfl⟩))
    go_ret3
    exact ⟨rfl, rfl⟩
  · have K := is_any h x hx
    have hc' : ¬ (x : Int) < 2 := by omega
    by_cases hn : M.isNode x
    · have hm : x ∈ M.hs := hn.resolve_left hc
      obtain ⟨j, rfl⟩ : ∃ j, x = j + 2 := ⟨x - 2, by omega⟩
      have hj : j < M.hs.length := by have := h.pu.node_iff.1 hn; omega
      rw [Mdl.nodeB_true hn] at K
      rw [Mdl.levI_in h.pu.ok hm, Mdl.lowN_in h.pu.ok hm, Mdl.highN_in h.pu.ok hm]
      obtain ⟨_, w0, w1, e0, e1, e2⟩ := h.pu.word hj
      have c18 := h.c18
      obtain ⟨g, hg⟩ := h.own.form (by omega)
      have own := h.own
      rw [hg] at c18 own
      have cw := own.cell hj
      have Kb := bparts_any (I.wd j) w (by omega) w1
      rw [e0, e1, e2] at Kb
      have hl8 : ((M.nd (j + 2)).1 : Int) ≤ 255 := by have := h.pu.ok.lv _ hm; have := h.pu.ok.le8; omega
      generalize (M.nd (j + 2)).1 = lv at Kb hl8
      generalize (M.nd (j + 2)).2.1 = lo at Kb
      generalize (M.nd (j + 2)).2.2 = hi at Kb
      have hln := h.pu.len
      generalize M.hs.length = L at c18 hj hln
      clear hn hm e0 e1 e2 own hc
      go_enter Tryz.func75, Tryz.ntmps75
      go_wp2_with (first
        | (go_at_call 31; refine K.mono ?_; clear K; rintro e w ⟨rfl, rfl⟩)
        | (go_at_call 89; refine Kb.mono ?_; clear Kb; rintro e w ⟨rfl, rfl⟩))
      go_ret3
      exact ⟨rfl, rfl⟩
    · rw [Mdl.nodeB_false hn] at K
      rw [Mdl.levI_none hn, Mdl.lowN_none hn, Mdl.highN_none hn]
      clear hn hc
      go_enter Tryz.func75, Tryz.ntmps75
      go_wp2_with (first
        | (go_at_call 31; refine K.mono ?_; clear K; rintro e w ⟨rfl, rfl⟩))
      go_ret3
      exact ⟨rfl, rfl⟩
theorem level_any (h : StI w S M I) (x : Nat) (hx : x < 4294967296) :
    Calls Tryz.prog 53 #[.pointer (some ⟨S, 0, none⟩), .int .u32 (x : Int)] w fun e w' => e = .returned (.int .i64 (M.levI x)) ∧ w' = w := by
  have K := parts_any h x hx
  go_enter Tryz.func53, Tryz.ntmps53
  go_wp2_with (first
    | (go_at_call 75; refine K.mono ?_; clear K; rintro e w ⟨rfl, rfl⟩))
  go_ret
  exact ⟨rfl, rfl⟩
theorem low_any (h : StI w S M I) (x : Nat) (hx : x < 4294967296) :
    Calls Tryz.prog 54 #[.pointer (some ⟨S, 0, none⟩), .int .u32 (x : Int)] w fun e w' => e = .returned (.int .u32 (M.lowN x : Int)) ∧ w' = w := by
  have K := parts_any h x hx
  go_enter Tryz.func54, Tryz.ntmps54
  go_wp2_with (first
    | (go_at_call 75; refine K.mono ?_; clear K; rintro e w ⟨rfl, rfl⟩))
  go_ret
  exact ⟨rfl, rfl⟩
theorem high_any (h : StI w S M I) (x : Nat) (hx : x < 4294967296) :
    Calls Tryz.prog 55 #[.pointer (some ⟨S, 0, none⟩), .int .u32 (x : Int)] w fun e w' => e = .returned (.int .u32 (M.highN x : Int)) ∧ w' = w := by
  have K := parts_any h x hx
  go_enter Tryz.func55, Tryz.ntmps55
  go_wp2_with (first
    | (go_at_call 75; refine K.mono ?_; clear K; rintro e w ⟨rfl, rfl⟩))
  go_ret
  exact ⟨rfl, rfl⟩
theorem order_any (h : StI w S M I) :
    Calls Tryz.prog 59 #[.pointer (some ⟨S, 0, none⟩)] w fun e w' => e = .returned (.pointer (some ⟨w.heap.size, 0, none⟩)) ∧ Od.IsOrd w' w.heap.size M.n M.v I.l ∧ Below w.heap.size w w' := by
  have K := Od.scopy_any (fun i hi => h.ordc hi)
  go_enter Tryz.func59, Tryz.ntmps59
  go_wp2_with (first
    | (go_at_call 79; refine K.mono ?_; clear K; rintro e w1 ⟨rfl, o1, b1⟩))
  go_ret
  exact ⟨rfl, o1, b1⟩
/-- All handles, rising. -/
theorem infoH : (Tryz.prog.info? 30).map (fun i => (i.zero, i.size, i.bytes)) = some (some (.int .u32 0), 1, 4) := by kernel_rfl
theorem make_hs (n : Nat) (hn : n ≤ 1000000) (w : World) :
    (Instr.makeSlice 102 (.int .i64 (n : Int)) (.int .i64 (n : Int))).run Tryz.prog w = .ok (.slice (some ⟨w.heap.size, 0, none⟩) n n) (w.alloc (.cells (madeCells #[.int .u32 0] n) 30)) := by
  obtain ⟨i, hi, hz, hs, hb⟩ := info_parts infoH
  exact run_make_row 102 30 i _ Tryz.underlying102 hi hz hs rfl .i64 .i64 n (by rw [hb]; omega) (by omega) w
theorem all_any (h : StI w S M I) :
    Calls Tryz.prog 50 #[.pointer (some ⟨S, 0, none⟩)] w fun e w' => e = .returned (.slice (some ⟨w.heap.size, 0, none⟩) M.hs.length M.hs.length) ∧ w'.rowIs w.heap.size 30 M.hs.length (fun i => .int .u32 ((i : Int) + 2)) ∧ Below w.heap.size w w' := by
  have c18 := h.c18
  have hl := h.pu.len
  generalize M.hs.length = L at c18 hl
  have hmk := make_hs L (by omega) w
  have row0 : (w.alloc (.cells (madeCells #[.int .u32 0] L) 30)).rowIs w.heap.size 30 L (fun i => if i < 0 then .int .u32 ((i : Int) + 2) else .int .u32 0) := by
    exact (World.rowIs_made w _ L _).congr fun i _ => (if_neg (Nat.not_lt_zero i)).symm
  have b0 : Below w.heap.size w (w.alloc (.cells (madeCells #[.int .u32 0] L) 30)) := (Below.refl _ w).alloc (Nat.le_refl _) _
  generalize w.alloc (.cells (madeCells #[.int .u32 0] L) 30) = w1 at hmk row0 b0
  go_enter Tryz.func50, Tryz.ntmps50
  go_wp2
  go_loopg [13] L (fun g si wr => ∃ j : Nat, j + g = L ∧ si = .int .i64 (j : Int) ∧ wr.rowIs w.heap.size 30 L (fun i => if i < j then .int .u32 ((i : Int) + 2) else .int .u32 0) ∧ Below w.heap.size w wr)
  case atStart => exact ⟨0, by omega, rfl, row0, b0⟩
  case round =>
    obtain ⟨j, hj, rfl, R, B⟩ := hrel
    have hJ : Aside (j + gk = L) := hj
    clear row0 b0 hmk hj
    by_cases hlt : j < L
    · have hlt' : (j : Int) < (L : Int) := by omega
      have cj := R.cell hlt
      have fj := R.frozen j
      have hw : IntKind.u32.wrap (j : Int) = (j : Int) := by rw [IntKind.wrap_u32]; omega
      have R2 := R.set j (.int .u32 (2 + (j : Int)))
      go_wp2
      go_roundg (gk - 1)
      case measure => have := hJ.out; omega
      case rel =>
        have hj := hJ.out
        refine ⟨j + 1, by omega, by go_num, R2.congr fun i _ => ?_, B.setCell (Nat.le_refl _) _⟩
        by_cases e : i = j
        · subst e
          rw [if_pos rfl, if_pos (by omega), Int.add_comm]
        · rw [if_neg e]
          by_cases e2 : i < j
          · rw [if_pos e2, if_pos (by omega)]
          · rw [if_neg e2, if_neg (by omega)]
    · obtain rfl : j = L := by have := hJ.out; omega
      go_wp2
      go_ret
      exact ⟨rfl, R.congr fun i hi => by rw [if_pos hi], B⟩
end
end Go.Proofs.YtdjjelknjojnfaaGreat

namespace Go.Proofs.YtdjjelknjojnfaaGreat
open Go Go.RowKit

theorem stCell_18 (n : Nat) (v l : Nat → Nat) (room : Nat) (ad ad' : Option Addr) (L L' cap cap' P mp lines : Nat) (on : Bool) (i : Nat) : (if i = 18 then .slice ad' L' cap' else stCell n v l room ad L cap P mp lines on i) = stCell n v l room ad' L' cap' P mp lines on i := by
  unfold stCell
  by_cases e : i = 18
  · subst e; simp
  · simp [e]
section
variable {w : World} {S n room L cap P mp lines : Nat} {v l : Nat → Nat} {ad : Option Addr} {on : Bool} {wd : Nat → Int} {nm : Int → Option Int}
set_option maxHeartbeats 1000000 in
theorem name_any (hb : w.rowIs S 87 27 (stCell n v l room ad L cap P mp lines on)) (own : OwnR 40 w 0 ad L cap (fun i => .int .u64 (wd i))) (map : IsMap w mp nm) (s : Nat) (x : Int) (hL : L ≤ 32768) :
    Calls Tryz.prog 123 #[.pointer (some ⟨S, 0, none⟩), .int .i64 (s : Int), .int .u64 x] w fun e w' => e = .returned (.tuple #[]) ∧ ∃ g cap', w'.rowIs S 87 27 (stCell n v l room (some ⟨g, 0, none⟩) (L + 1) cap' P mp lines on) ∧ OwnR 40 w' 0 (some ⟨g, 0, none⟩) (L + 1) cap' (fun i => .int .u64 (if i = L then x else wd i)) ∧ IsMap w' mp (at1 nm (s : Int) (some ((L : Int) + 2))) ∧ Went (fun k => k = S ∨ k = mp ∨ At ad k) w w' ∧ (At ad g ∨ w.heap.size ≤ g) := by
  have c22 : w.cell? ⟨S, 22, none⟩ = some (.map (some mp)) := hb.cell (i := 22) (by omega)
  have c18 : w.cell? ⟨S, 18, none⟩ = some (.slice ad L cap) := hb.cell (i := 18) (by omega)
  have mapd : IsMap w.drew mp nm := map.same rfl
  obtain ⟨w1, hr1, m1, t1⟩ := map_put mapd (s : Int) (2 + (L : Int))
  have hSm : S ≠ mp := fun e => by
    obtain ⟨cs, h1, _⟩ := hb
    obtain ⟨es, ck, l, h2, _⟩ := map
    rw [e, h2] at h1
    cases h1
  have hAm : ∀ k, At ad k → k ≠ mp := fun k hk e => by
    obtain ⟨cur, h1⟩ := own.kind k hk
    obtain ⟨es, ck, l, h2, _⟩ := map
    rw [e, h2] at h1
    cases h1
  have hb1 : w1.rowIs S 87 27 (stCell n v l room ad L cap P mp lines on) := hb.of_block (t1.block S hSm)
  have own1 : OwnR 40 w1 0 ad L cap (fun i => .int .u64 (wd i)) := own.kept fun b hb' => t1.block b (hAm b hb')
  have d18 : w1.cell? ⟨S, 18, none⟩ = some (.slice ad L cap) := hb1.cell (i := 18) (by omega)
  have hb2 := hb1.alloc (.cells #[.int .u64 x] 40)
  have hlt2 : S < (w1.alloc (.cells #[.int .u64 x] 40)).heap.size := hb2.lt
  have hSA : ¬ At ad S := by obtain ⟨cs, h1, _⟩ := hb; exact own.apart h1 (by decide)
  have hwr : IntKind.u32.wrap (L : Int) = (L : Int) := by rw [IntKind.wrap_u32]; omega
  go_enter Tryz.func123, Tryz.ntmps123
  go_wp2_with fail
  go_region
  all_goals go_wp2_with (first
    | (at_builtin; refine append_u64 (own1.new _) w1.heap.size x (heap_alloc_new _ _) (by omega) (Nat.zero_le _) rfl _ _ rfl rfl rfl ?_; intro g cap' w3 o3 b3 p3; have hb3 := hb2.of_block (b3.block S hlt2 hSA); have e18 := hb3.cell (i := 18) (by omega); have f18 := hb3.frozen 18))
  go_end0
  have hg3 : ¬ S = g := by
    obtain ⟨cur, h1⟩ := o3.kind g ⟨_, rfl, rfl⟩
    obtain ⟨cs, h2, _⟩ := hb3
    intro e
    rw [e, h1] at h2
    simp at h2
  have t1w : Went (fun k => k = S ∨ k = mp ∨ At ad k) w w1 := ⟨t1.os, t1.tape, t1.output, Nat.le_of_eq t1.size.symm, fun k _ hn => t1.block k fun e => hn (.inr (.inl e))⟩
  have m3 : IsMap w3 mp _ := (m1.same (Below.heap_alloc _ _ _ m1.lt)).same (b3.block mp (by have := m1.lt; simp; omega) fun e => hAm _ e rfl)
  refine ⟨rfl, g, cap', (hb3.set 18 _).congr fun i _ => stCell_18 n v l room ad (some ⟨g, 0, none⟩) L (L + 1) cap cap' P mp lines on i, (o3.kept fun b hb => Below.heap_setCell _ _ _ _ ?_).congr fun i _ => ?_, ?_, ?_, ?_⟩
  · obtain ⟨a, ha, rfl⟩ := hb
    cases ha
    exact fun e => hg3 e.symm
  · by_cases e : i = L
    · rw [if_pos e, if_pos e]
    · rw [if_neg e, if_neg e]
  · rw [Int.add_comm]
    exact m3.same (Below.heap_setCell _ _ _ _ fun e => hSm e.symm)
  · exact ((t1w.trans (Went.new _ _ _)).trans (b3.wider fun i e => .inr (.inr e))).trans (Went.set (.inl rfl) _ _)
  · rcases p3 with p3 | p3
    · exact .inl p3
    · right
      rw [p3]
      simp [t1.size]
end
end Go.Proofs.YtdjjelknjojnfaaGreat

namespace Go.Proofs.YtdjjelknjojnfaaGreat
open Go Go.RowKit

/-- All but the blocks of F stay as they were; those of F' are of F, or new. -/
structure Wf (F F' : Nat → Prop) (w w' : World) : Prop where
  os : w'.os = w.os
  tape : w'.tape = w.tape
  output : w'.output = w.output
  size : w.heap.size ≤ w'.heap.size
  block : ∀ k, k < w.heap.size → ¬ F k → w'.heap[k]? = w.heap[k]?
  new : ∀ k, F' k → F k ∨ w.heap.size ≤ k
namespace Wf
variable {F F' F'' : Nat → Prop} {a b c w w' : World}
theorem refl (F : Nat → Prop) (w : World) : Wf F F w w := ⟨rfl, rfl, rfl, Nat.le_refl _, fun _ _ _ => rfl, fun _ h => .inl h⟩
theorem trans (h : Wf F F' a b) (k : Wf F' F'' b c) : Wf F F'' a c :=
  ⟨k.os.trans h.os, k.tape.trans h.tape, k.output.trans h.output, Nat.le_trans h.size k.size,
   fun i hi hf => (k.block i (Nat.lt_of_lt_of_le hi h.size) fun e => (h.new i e).elim hf fun g => by omega).trans (h.block i hi hf),
   fun i hi => (k.new i hi).elim (fun e => h.new i e) fun e => .inr (Nat.le_trans h.size e)⟩
theorem of_below (h : Below w.heap.size w w') (F : Nat → Prop) : Wf F F w w' := ⟨h.os, h.tape, h.output, h.size, fun k hk _ => h.block k hk, fun _ e => .inl e⟩
theorem below {B : Nat} (h : Wf F F' w w') (hB : B ≤ w.heap.size) (hF : ∀ k, F k → B ≤ k) : Below B w w' :=
  ⟨h.os, h.tape, h.output, h.size, fun k hk => h.block k (by omega) fun e => by have := hF k e; omega⟩
theorem drewN (h : Wf F F' a b) (q : Nat) : Wf F F' a (b.drewN q) := ⟨h.os, h.tape, h.output, h.size, h.block, h.new⟩
theorem drew (h : Wf F F' a b) : Wf F F' a b.drew := ⟨h.os, h.tape, h.output, h.size, h.block, h.new⟩
theorem undrew (h : Wf F F' a.drew b) : Wf F F' a b := ⟨h.os, h.tape, h.output, h.size, h.block, h.new⟩
theorem far {B : Nat} {d : World} (h : Below B d a) (k : Wf F F' a b) (hB : B ≤ a.heap.size) (hF : ∀ i, F i → B ≤ i) : Below B d b := h.trans (k.below hB hF)
theorem after (h : Wf F F' a b) {B : Nat} (hB : B ≤ a.heap.size) (hF : ∀ i, F i → B ≤ i) : ∀ i, F' i → B ≤ i := fun i hi => (h.new i hi).elim (hF i) fun e => Nat.le_trans hB e
end Wf

def Ins.cells (I : Ins) (c' : Nat → Int) : Ins := ⟨I.P, I.R, I.mp, I.ad, I.cap, I.lines, c', I.wd, I.nm, I.l, I.on⟩
theorem Ins.cells_self (I : Ins) : I.cells I.c = I := rfl
theorem Fp_cells (S : Nat) (I : Ins) (c' : Nat → Int) : Fp S (I.cells c') = Fp S I := rfl

section
variable {w w' : World} {S : Nat} {M : Mdl} {I : Ins}
theorem StI.drewN (h : StI w S M I) (q : Nat) : StI (w.drewN q) S M I := h.kept fun _ _ => rfl
/-- Its blocks are unlike one another. -/
theorem StI.apart (h : StI w S M I) : S ≠ I.P ∧ S ≠ I.R ∧ S ≠ I.mp ∧ I.mp ≠ I.P ∧ I.mp ≠ I.R ∧ (¬ At I.ad S) ∧ (¬ At I.ad I.P) ∧ (¬ At I.ad I.R) ∧ ¬ At I.ad I.mp := by
  obtain ⟨cs, hS⟩ := h.kind
  obtain ⟨o, f, m⟩ := h.mem
  obtain ⟨cr, hR, _⟩ := m.row
  obtain ⟨es, ck, l, hM, _⟩ := h.map
  have hP := m.head
  refine ⟨fun e => ?_, fun e => ?_, fun e => ?_, fun e => ?_, fun e => ?_, h.own.apart hS (by decide), h.own.apart hP (by decide), h.own.apart hR (by decide), fun e => ?_⟩
  · rw [e, hP] at hS; simp at hS
  · rw [e, hR] at hS; simp at hS
  · rw [e, hM] at hS; simp at hS
  · rw [e, hP] at hM; simp at hM
  · rw [e, hR] at hM; simp at hM
  · obtain ⟨cur, hc⟩ := h.own.kind _ e
    rw [hM] at hc
    simp at hc
/-- The cells turned, and nothing else. -/
theorem StI.turn (h : StI w S M I) {c' : Nat → Int} {o f : Int} (g : Went (fun k => k = I.P ∨ k = I.R ∨ w.heap.size ≤ k) w w') (m : IsMem w' I.P I.R (2 * M.room + 4 * I.lines) c' o f) (p : Pu M (I.cells c')) : StI w' S M (I.cells c') ∧ Wf (Fp S I) (Fp S I) w w' := by
  obtain ⟨a1, a2, a3, a4, a5, a6, a7, a8, a9⟩ := h.apart
  have keep : ∀ b, b < w.heap.size → b ≠ I.P → b ≠ I.R → w'.heap[b]? = w.heap[b]? := fun b hb h1 h2 => g.block b hb fun e => by rcases e with e | e | e <;> omega
  refine ⟨⟨h.blk.of_block (keep S h.ltS a1 a2), ⟨o, f, m⟩, h.own.kept fun b hb => keep b (h.own.block b hb).2 (fun e => a7 (e ▸ hb)) (fun e => a8 (e ▸ hb)), h.map.same (keep I.mp h.map.lt a4 a5), p⟩, ?_⟩
  refine ⟨g.os, g.tape, g.output, g.size, fun k hk hf => keep k hk (fun e => hf (.inr (.inl e))) fun e => hf (.inr (.inr (.inl e))), fun k hk => .inl hk⟩
theorem line_low (room lines : Nat) (key : Int) : room ≤ Ch.line room lines key := by unfold Ch.line; omega
/-- The cells of a store with a value laid in its cache. -/
theorem Pu.put (p : Pu M I) {i : Nat} (hi : i < M.hs.length) : Pu M (I.cells (Ch.putAt I.c (Ch.line (2 * M.room) I.lines (I.wd i)) (I.wd i) ((i : Int) + 2))) := by
  obtain ⟨_, w0, w1, _⟩ := p.word hi
  have hln := p.len
  have low := line_low (2 * M.room) I.lines
  generalize hL : Ch.line (2 * M.room) I.lines (I.wd i) = L
  have hLl : 2 * M.room ≤ L := hL ▸ low (I.wd i)
  have same : ∀ s, s < 2 * M.room → Ch.putAt I.c L (I.wd i) ((i : Int) + 2) s = I.c s := fun s hs => Ch.putAt_other (.inl (by omega))
  have hfit : Ch.U64 (Ch.putAt I.c L (I.wd i) ((i : Int) + 2)) := by
    have := (Ch.runs_fit (N := L + 4) 16 I.c (Ch.Ac.ofPut L (I.wd i) ((i : Int) + 2)) p.fit (Ch.Fit.ofPut (by omega) (by omega) w1 (by omega) (by omega))).1
    rwa [(Ch.runs_put I.c L (I.wd i) ((i : Int) + 2)).1] at this
  have pl : ∀ (k : Int) j, Tb.place (2 * M.room) k j < 2 * M.room := fun k j => Tb.place_lt k j (by have := p.room1; omega)
  refine ⟨p.ok, p.inv, p.room1, p.room2, p.lines1, p.lines2, p.hs, p.wd, hfit, fun k j hk hj e q hq => ?_, fun s hs h0 => ?_, fun j hj => ?_, ?_, fun key k0 k1 hh => ?_⟩
  · change Ch.putAt I.c L _ _ _ = k at e
    show ¬ Ch.putAt I.c L _ _ _ = 0 ∧ ¬ Ch.putAt I.c L _ _ _ = k
    rw [same _ (pl k j)] at e
    rw [same _ (pl k q)]
    exact p.good k j hk hj e q hq
  · change ¬ Ch.putAt I.c L _ _ _ = 0 at h0
    rw [same s hs] at h0
    obtain ⟨j, hj, e1, e2⟩ := p.tab s hs h0
    exact ⟨j, hj, (same s hs).trans e1, e2⟩
  · obtain ⟨s, hs, e⟩ := p.all j hj
    exact ⟨s, hs, (same s hs).trans e⟩
  · rw [← p.cnt]
    exact Tb.cnt_congr _ fun s hs => same s hs
  · change Ch.Hits (Ch.putAt I.c L _ _) (Ch.line (2 * M.room) I.lines key) key at hh
    show ∃ j, j < M.hs.length ∧ key = I.wd j ∧ Ch.jn (Ch.lo (Ch.putAt I.c L _ _ (Ch.line (2 * M.room) I.lines key + 2))) (Ch.lo (Ch.putAt I.c L _ _ (Ch.line (2 * M.room) I.lines key + 3))) = (j : Int) + 2
    by_cases e : Ch.line (2 * M.room) I.lines key = L
    · rw [e] at hh ⊢
      have ph := Ch.put_hits (f := L) (key := I.wd i) (key' := key) (val := (i : Int) + 2) p.fit (by omega) w1 (by omega) (by omega)
      exact ⟨i, hi, ph.1.1 hh, ph.2⟩
    · have apart : ∀ j, Ch.line (2 * M.room) I.lines key ≤ j → j < Ch.line (2 * M.room) I.lines key + 4 → Ch.putAt I.c L (I.wd i) ((i : Int) + 2) j = I.c j := fun j h1 h2 => Ch.putAt_other (by
        rw [← hL] at e ⊢
        unfold Ch.line at e h1 h2 ⊢
        generalize home key I.lines = q at e h1 h2
        generalize home (I.wd i) I.lines = r at e ⊢
        omega)
      rw [Ch.hits_congr apart] at hh
      rw [apart _ (by omega) (by omega), apart _ (by omega) (by omega)]
      exact p.cch key k0 k1 hh

/-- A word is asked of the cache. -/
theorem recall_any (h : StI w S M I) (k : Int) (h0 : 0 ≤ k) (h1 : k ≤ 18446744073709551615) :
    Calls Tryz.prog 104 #[.pointer (some ⟨S, 0, none⟩), .int .u64 k] w fun e w' => ∃ (x : Nat) (ok : Bool), e = .returned (.tuple #[.int .u32 (x : Int), .bool ok]) ∧ Aside (ok = true → ∃ i, i < M.hs.length ∧ k = I.wd i ∧ x = i + 2) ∧ StI w' S M I ∧ Wf (Fp S I) (Fp S I) w w' := by
  have c26 := h.c26
  cases hon : I.on with
  | false =>
    rw [hon] at c26
    clear hon
    go_enter Tryz.func104, Tryz.ntmps104
    go_wp2_with fail
    go_ret2
    exact ⟨0, false, rfl, (fun e => by cases e), h, Wf.refl _ _⟩
  | true =>
    rw [hon] at c26
    clear hon
    obtain ⟨o, f, hc⟩ := h.ch
    have K1 := Ch.aget_any hc k h0 h1
    have hL := hc.line_lt k
    have hln := h.pu.len
    have cch : Aside (_) := h.pu.cch k h0 h1
    generalize hLe : Ch.line (2 * M.room) I.lines k = L at K1 hL cch
    have hfit := Ch.Fit.ofGet (key := k) hL h0 h1
    have rg := Ch.runs_get I.c L k
    have rf := (Ch.runs_fit 16 I.c (Ch.Ac.ofGet L k) hc.fit hfit).2.h
    have rt : Aside (∃ (x : Nat) (ok : Bool), (Ch.runs 16 I.c (Ch.Ac.ofGet L k)).2.told = (x : Int) ∧ x < 4294967296 ∧ (Ch.runs 16 I.c (Ch.Ac.ofGet L k)).2.found = ok ∧ (ok = true → ∃ i, i < M.hs.length ∧ k = I.wd i ∧ x = i + 2)) := by
      obtain ⟨r1, r2, r3, r4⟩ := rg
      cases hf : (Ch.runs 16 I.c (Ch.Ac.ofGet L k)).2.found with
      | false =>
        refine ⟨0, false, ?_, by omega, rfl, fun e => by cases e⟩
        unfold Ch.Ac.told
        rw [hf]
        rfl
      | true =>
        obtain ⟨i, hi, e1, e2⟩ := cch.out (r3.1 hf)
        exact ⟨i + 2, true, by rw [r4 hf, e2]; simp, by omega, rfl, fun _ => ⟨i, hi, e1, rfl⟩⟩
    have rc : Aside ((Ch.runs 16 I.c (Ch.Ac.ofGet L k)).1 = I.c) := rg.1
    clear rg cch
    generalize hX : Ch.Ac.ofGet L k = X at K1 hfit rf rt rc
    clear hX
    obtain ⟨x, ok, hx, hx4, hok, told⟩ := rt.out
    have told' : Aside (ok = true → ∃ i, i < M.hs.length ∧ k = I.wd i ∧ x = i + 2) := told
    have hxw : IntKind.u32.wrap (x : Int) = (x : Int) := by rw [IntKind.wrap_u32]; omega
    clear told rt
    have hmf : ∀ (fn : Fn) (first cap : Array Value) (w : World), (Instr.makeFunc fn first cap).run Tryz.prog w = .ok (.func fn first cap) w := fun _ _ _ _ => rfl
    have hA : Aside (w.heap.size = w.heap.size) := rfl
    generalize hH : w.heap.size = A at K1 hA
    have hH' : Aside (w.heap.size = A) := hH
    clear hH hA
    go_enter Tryz.func104, Tryz.ntmps104
    go_wp2_with (first
      | (go_at_call 114; refine K1.mono ?_; clear K1; rintro e w1 ⟨rfl, a1, b1, s1⟩; rw [← hH'.out] at b1; have sA : Aside (w1.heap.size = A + 1) := s1; clear s1; have hc1 := hc.below b1; have K2 := drive_act hc1 a1 hfit; rw [rc.out] at K2)
      | (go_at_call 115; refine K2.mono ?_; clear K2; rintro e w2 ⟨rfl, ⟨o2, f2, hc2⟩, a2, b2⟩; have K3 := Ch.got_any a2 rf; rw [hx, hok] at K3)
      | (go_at_call 117; refine K3.mono ?_; clear K3; rintro e w3 ⟨rfl, q, rfl⟩))
    go_ret2
    have g : Went (fun k => k = I.P ∨ k = I.R ∨ w.heap.size ≤ k) w w2 := ⟨b2.os.trans b1.os, b2.tape.trans b1.tape, b2.output.trans b1.output, Nat.le_trans b1.size b2.size, fun j hj hn => (b2.block j (Nat.lt_of_lt_of_le hj b1.size) fun e => hn (by rcases e with e | e | e; exact .inl e; exact .inr (.inl e); have := hH'.out; exact .inr (.inr (by omega)))).trans (b1.block j hj)⟩
    obtain ⟨t1, t2⟩ := h.turn (c' := I.c) g hc2.mem h.pu
    exact ⟨x, ok, rfl, told', t1.drewN q, t2.drewN q⟩
/-- A handle is laid in the cache. -/
theorem keep_any (h : StI w S M I) (i : Nat) (hi : i < M.hs.length) :
    Calls Tryz.prog 106 #[.pointer (some ⟨S, 0, none⟩), .int .u64 (I.wd i), .int .u32 ((i : Int) + 2)] w fun e w' => e = .returned (.tuple #[]) ∧ ∃ c', StI w' S M (I.cells c') ∧ Wf (Fp S I) (Fp S I) w w' := by
  have c26 := h.c26
  cases hon : I.on with
  | false =>
    rw [hon] at c26
    clear hon
    go_enter Tryz.func106, Tryz.ntmps106
    go_wp2_with fail
    go_end0
    exact ⟨rfl, I.c, h, Wf.refl _ _⟩
  | true =>
    rw [hon] at c26
    clear hon
    obtain ⟨_, w0, w1, _⟩ := h.pu.word hi
    have hln := h.pu.len
    obtain ⟨o, f, hc⟩ := h.ch
    have K1 := Ch.aput_any hc (I.wd i) ((i : Int) + 2) (by omega) w1 (by omega) (by omega)
    have hL := hc.line_lt (I.wd i)
    have pput : Aside (_) := h.pu.put hi
    generalize Ch.line (2 * M.room) I.lines (I.wd i) = L at K1 hL pput
    have hfit := Ch.Fit.ofPut (key := I.wd i) (val := (i : Int) + 2) hL (by omega) w1 (by omega) (by omega)
    have rc : Aside ((Ch.runs 16 I.c (Ch.Ac.ofPut L (I.wd i) ((i : Int) + 2))).1 = Ch.putAt I.c L (I.wd i) ((i : Int) + 2)) := (Ch.runs_put _ _ _ _).1
    generalize hX : Ch.Ac.ofPut L (I.wd i) ((i : Int) + 2) = X at K1 hfit rc
    clear hX
    generalize Ch.putAt I.c L (I.wd i) ((i : Int) + 2) = c' at rc pput
    have hxw : IntKind.u64.wrap ((i : Int) + 2) = (i : Int) + 2 := by rw [IntKind.wrap_u64]; omega
    have hmf : ∀ (fn : Fn) (first cap : Array Value) (w : World), (Instr.makeFunc fn first cap).run Tryz.prog w = .ok (.func fn first cap) w := fun _ _ _ _ => rfl
    generalize hH : w.heap.size = A at K1
    have hH' : Aside (w.heap.size = A) := hH
    clear hH
    go_enter Tryz.func106, Tryz.ntmps106
    go_wp2_with (first
      | (go_at_call 124; refine K1.mono ?_; clear K1; rintro e w1 ⟨rfl, a1, b1, s1⟩; rw [← hH'.out] at b1; have sA : Aside (w1.heap.size = A + 1) := s1; clear s1; have hc1 := hc.below b1; have K2 := drive_act hc1 a1 hfit; rw [rc.out] at K2)
      | (go_at_call 115; refine K2.mono ?_; clear K2; rintro e w2 ⟨rfl, ⟨o2, f2, hc2⟩, a2, b2⟩))
    go_end0
    have g : Went (fun k => k = I.P ∨ k = I.R ∨ w.heap.size ≤ k) w w2 := ⟨b2.os.trans b1.os, b2.tape.trans b1.tape, b2.output.trans b1.output, Nat.le_trans b1.size b2.size, fun j hj hn => (b2.block j (Nat.lt_of_lt_of_le hj b1.size) fun e => hn (by rcases e with e | e | e; exact .inl e; exact .inr (.inl e); have := hH'.out; exact .inr (.inr (by omega)))).trans (b1.block j hj)⟩
    obtain ⟨t1, t2⟩ := h.turn (c' := c') g hc2.mem pput.out
    exact ⟨rfl, c', t1, t2⟩
end
end Go.Proofs.YtdjjelknjojnfaaGreat

namespace Go.Proofs.YtdjjelknjojnfaaGreat
open Go Go.RowKit

/-- The store with a node more, at the next handle. -/
def Mdl.addAt (M : Mdl) (d : Nd) : Mdl := ⟨M.n, M.v, M.room, M.hs ++ [M.hs.length + 2], fun x => if x = M.hs.length + 2 then d else M.nd x⟩
def Ins.grown (I : Ins) (L : Nat) (k : Int) (s g cap' : Nat) (c' : Nat → Int) : Ins := ⟨I.P, I.R, I.mp, some ⟨g, 0, none⟩, cap', I.lines, c', fun i => if i = L then k else I.wd i, at1 I.nm (s : Int) (some ((L : Int) + 2)), I.l, I.on⟩

section
variable {w w' : World} {S : Nat} {M : Mdl} {I : Ins} {d : Nd}
theorem Pu.adds (p : Pu M I) : M.Adds (M.hs.length + 2) d (M.addAt d) :=
  ⟨rfl, rfl, rfl, fun e => by have := (p.mem_iff.1 e).2; omega, fun k => by simp [Mdl.addAt, or_comm], by simp [Mdl.addAt], fun _ => rfl⟩
/-- A word of the store is a node's. -/
theorem Pu.word_of (p : Pu M I) (f : M.Fits d) {i : Nat} (hi : i < M.hs.length) (e : ndZ d = I.wd i) : M.nd (i + 2) = d := by
  have hm : i + 2 ∈ M.hs := p.mem_iff.2 (by omega)
  rw [p.wd i hi] at e
  obtain ⟨e1, e2, e3⟩ := nodeZ_inj (Mdl.isNode_lt p.ok f.lo.1) (Mdl.isNode_lt p.ok f.hi.1) (Mdl.isNode_lt p.ok (p.ok.lo _ hm).1) (Mdl.isNode_lt p.ok (p.ok.hi _ hm).1) e
  exact (Prod.ext e1 (Prod.ext e2 e3)).symm
theorem Pu.fits_word (p : Pu M I) (f : M.Fits d) : 0 < ndZ d ∧ ndZ d ≤ 18446744073709551615 :=
  ⟨nodeZ_pos (Mdl.isNode_lt p.ok f.lo.1) (Mdl.isNode_lt p.ok f.hi.1) f.ne, (nodeZ_bd _ _ _ (by have := f.lv; have := p.ok.le8; omega)).2⟩
theorem Pu.no_slot (p : Pu M I) (f : M.Fits d) (no : ∀ k ∈ M.hs, M.nd k ≠ d) : ∀ s, s < 2 * M.room → ¬ I.c s = ndZ d := fun s hs e => by
  have h0 : ¬ I.c s = 0 := by have := (p.fits_word f).1; omega
  obtain ⟨i, hi, e1, _⟩ := p.tab s hs h0
  exact no (i + 2) (p.mem_iff.2 (by omega)) (p.word_of f hi (e.symm.trans e1))
/-- The store with a node more holds what a store must. -/
theorem Pu.add (p : Pu M I) (f : M.Fits d) (no : ∀ k ∈ M.hs, M.nd k ≠ d) (room : M.hs.length < M.room) {s : Nat} (hs : s < 2 * M.room) (h0 : I.c s = 0) {c' : Nat → Int} (hc : ∀ j, j < 2 * M.room → c' j = upd I.c s (ndZ d) j) (hh : ∀ j, 2 * M.room ≤ j → c' j = I.c j) (fit : Ch.U64 c') (good : Tb.Good (2 * M.room) c') (g cap' : Nat) : Pu (M.addAt d) (I.grown M.hs.length (ndZ d) s g cap' c') := by
  have k0 := (p.fits_word f).1
  have len : (M.addAt d).hs.length = M.hs.length + 1 := by simp [Mdl.addAt]
  have hln := p.len
  have r2 := p.room2
  have hhs : (M.addAt d).hs = List.range' 2 (M.addAt d).hs.length := by
    rw [len, List.range'_concat]
    show M.hs ++ [M.hs.length + 2] = _
    rw [← p.hs]
    simp [Nat.add_comm]
  have so : (M.addAt d).hs.Pairwise (· < ·) := by
    show (M.hs ++ [M.hs.length + 2]).Pairwise (· < ·)
    rw [List.pairwise_append]
    refine ⟨p.ok.sorted, by simp, fun a ha b hb => ?_⟩
    have := (p.mem_iff.1 ha).2
    simp at hb
    omega
  have wdo : ∀ i, i < M.hs.length → (I.grown M.hs.length (ndZ d) s g cap' c').wd i = I.wd i := fun i hi => if_neg (by omega)
  have cs : ∀ j, j < 2 * M.room → j ≠ s → c' j = I.c j := fun j hj e => by rw [hc j hj, Tb.upd_other _ _ e]
  have css : c' s = ndZ d := by rw [hc s hs, Tb.upd_same]
  refine ⟨p.ok.adds p.adds f no (by omega) room so, p.inv, p.room1, p.room2, p.lines1, p.lines2, hhs, fun i hi => ?_, fit, good, fun j hj e => ?_, fun i hi => ?_, ?_, fun key q0 q1 hk => ?_⟩
  · rw [len] at hi
    show (if i = M.hs.length then ndZ d else I.wd i) = ndZ (if i + 2 = M.hs.length + 2 then d else M.nd (i + 2))
    by_cases e : i = M.hs.length
    · rw [if_pos e, if_pos (by omega)]
    · rw [if_neg e, if_neg (by omega), p.wd i (by omega)]
  · rw [len]
    change ¬ c' j = 0 at e
    by_cases ej : j = s
    · exact ⟨M.hs.length, by omega, by rw [ej]; show c' s = if _ then _ else _; rw [css, if_pos rfl], by rw [ej]; show at1 I.nm _ _ _ = _; unfold at1; rw [if_pos rfl]⟩
    · rw [cs j hj ej] at e
      obtain ⟨i, hi, e1, e2⟩ := p.tab j hj e
      exact ⟨i, by omega, by show c' j = _; rw [cs j hj ej, e1, wdo i hi], by show at1 I.nm _ _ _ = _; unfold at1; rw [if_neg (by omega), e2]⟩
  · rw [len] at hi
    by_cases e : i = M.hs.length
    · exact ⟨s, hs, by show c' s = if _ then _ else _; rw [css, if_pos e]⟩
    · obtain ⟨j, hj, e1⟩ := p.all i (by omega)
      have hjs : j ≠ s := fun q => by
        have := (p.word (show i < M.hs.length by omega)).2.1
        rw [q, h0] at e1
        omega
      exact ⟨j, hj, by show c' j = _; rw [cs j hj hjs, e1, wdo i (by omega)]⟩
  · rw [len, ← p.cnt]
    show Tb.cnt c' (2 * M.room) = _
    rw [Tb.cnt_congr _ hc, Tb.cnt_upd _ hs h0 (by omega)]
  · have low := line_low (2 * M.room) I.lines key
    change Ch.Hits c' (Ch.line (2 * M.room) I.lines key) key at hk
    rw [Ch.hits_congr (fun j h1 _ => hh j (by omega))] at hk
    obtain ⟨i, hi, e1, e2⟩ := p.cch key q0 q1 hk
    refine ⟨i, by omega, by rw [wdo i hi, e1], ?_⟩
    show Ch.jn (Ch.lo (c' (Ch.line (2 * M.room) I.lines key + 2))) (Ch.lo (c' (Ch.line (2 * M.room) I.lines key + 3))) = _
    rw [hh _ (by omega), hh _ (by omega), e2]

/-- A word that is there, in a full store. -/
theorem find_full_there (h : StI w S M I) (f : M.Fits d) (i : Nat) (hi : i < M.hs.length) (e : M.nd (i + 2) = d) (full : M.hs.length = M.room) :
    Calls Tryz.prog 105 #[.pointer (some ⟨S, 0, none⟩), .int .u64 (ndZ d)] w fun e w' => e = .returned (.tuple #[.int .u32 ((i : Int) + 2), .int .i64 0]) ∧ StI w' S M I ∧ Wf (Fp S I) (Fp S I) w w' := by
  obtain ⟨k0, k1⟩ := h.pu.fits_word f
  have hwd : I.wd i = ndZ d := by rw [h.pu.wd i hi, e]
  have cS : ∀ q, (w.drewN q).cell? ⟨S, 17, none⟩ = some (.int .i64 (M.room : Int)) := fun q => (h.drewN q).c17
  have KL : ∀ q, Calls Tryz.prog 51 #[.pointer (some ⟨S, 0, none⟩)] (w.drewN q) fun e w' => e = .returned (.int .i64 (M.room : Int)) ∧ w' = w.drewN q := fun q => by
    have := slen_any (h.drewN q)
    rwa [full] at this
  have hp := h.pu
  have c17 := h.c17
  have hS := h
  have hT : Aside (∀ (y : Int) (ok : Bool), Tb.Told (2 * M.room) I.c (ndZ d) y ok → ok = true ∧ I.nm y = some ((i : Int) + 2)) := fun y ok t => by
    obtain ⟨s0, hs0, e0⟩ := hp.all i hi
    rcases t with ⟨rfl, s, hs, rfl, es⟩ | ⟨_, _, no⟩
    · have := hp.good.one (k := ndZ d) (by omega) hs hs0 es (by rw [e0, hwd])
      subst this
      obtain ⟨j, hj, e1, e2⟩ := hp.tab s hs (by omega)
      have : j = i := by
        have := hp.word_of f hj (es.symm.trans e1)
        have := hp.ok.one (j + 2) (hp.mem_iff.2 (by omega)) (i + 2) (hp.mem_iff.2 (by omega)) (by rw [this, e])
        omega
      rw [this] at e2
      exact ⟨rfl, e2⟩
    · exact absurd (by rw [e0, hwd]) (no (by omega) s0 hs0)
  clear hwd e full
  go_enter Tryz.func105, Tryz.ntmps105
  go_wp2_with fail
  go_quiet ((go_at_call 51; exact Calls.quiet_of_same (KL _)))
  have hq := h.drewN nq
  have wq := (Wf.refl (Fp S I) w).drewN nq
  clear cS KL c17 h hS
  generalize w.drewN nq = w0 at hq wq ⊢
  obtain ⟨o, f0, ht⟩ := hq.tb
  have K1 := Tb.has_any ht I.c (fun i => by rw [Nat.zero_add]) (ndZ d) (by omega) k1 hp.good
  go_wp2_with (first
    | (go_at_call 118; refine K1.mono ?_; clear K1; rintro e w1 ⟨y, ok, rfl, told, ⟨o1, h1⟩, m1⟩; obtain ⟨rfl, hnm⟩ := hT.out y ok told; clear told; obtain ⟨s1, s2⟩ := hq.turn (c' := I.c) (Went.of_moved m1 (.inl rfl) (.inr (.inl rfl))) h1.mem hp; have c22 := s1.c22; have lk := map_at s1.map y; have hnm' : ((I.cells I.c).nm y).getD 0 = (i : Int) + 2 := by (show (I.nm y).getD 0 = _; rw [hnm]; rfl)))
  go_ret2
  exact ⟨rfl, s1, wq.trans s2⟩
/-- A word that isn't there, in a full store. -/
theorem find_full_no (h : StI w S M I) (f : M.Fits d) (no : ∀ k ∈ M.hs, M.nd k ≠ d) (full : M.hs.length = M.room) :
    Calls Tryz.prog 105 #[.pointer (some ⟨S, 0, none⟩), .int .u64 (ndZ d)] w fun e w' => e = .returned (.tuple #[.int .u32 0, .int .i64 60]) ∧ StI w' S M I ∧ Wf (Fp S I) (Fp S I) w w' := by
  obtain ⟨k0, k1⟩ := h.pu.fits_word f
  have cS : ∀ q, (w.drewN q).cell? ⟨S, 17, none⟩ = some (.int .i64 (M.room : Int)) := fun q => (h.drewN q).c17
  have KL : ∀ q, Calls Tryz.prog 51 #[.pointer (some ⟨S, 0, none⟩)] (w.drewN q) fun e w' => e = .returned (.int .i64 (M.room : Int)) ∧ w' = w.drewN q := fun q => by
    have := slen_any (h.drewN q)
    rwa [full] at this
  have hp := h.pu
  have c17 := h.c17
  have hT : Aside (∀ (y : Int) (ok : Bool), Tb.Told (2 * M.room) I.c (ndZ d) y ok → ok = false) := fun y ok t => by
    rcases t with ⟨rfl, s, hs, rfl, es⟩ | ⟨e, _, _⟩
    · exact absurd es (hp.no_slot f no s hs)
    · exact e
  clear full no
  go_enter Tryz.func105, Tryz.ntmps105
  go_wp2_with fail
  go_quiet ((go_at_call 51; exact Calls.quiet_of_same (KL _)))
  have hq := h.drewN nq
  have wq := (Wf.refl (Fp S I) w).drewN nq
  clear cS KL c17 h
  generalize w.drewN nq = w0 at hq wq ⊢
  obtain ⟨o, f0, ht⟩ := hq.tb
  have K1 := Tb.has_any ht I.c (fun i => by rw [Nat.zero_add]) (ndZ d) (by omega) k1 hp.good
  go_wp2_with (first
    | (go_at_call 118; refine K1.mono ?_; clear K1; rintro e w1 ⟨y, ok, rfl, told, ⟨o1, h1⟩, m1⟩; obtain rfl := hT.out y ok told; clear told; obtain ⟨s1, s2⟩ := hq.turn (c' := I.c) (Went.of_moved m1 (.inl rfl) (.inr (.inl rfl))) h1.mem hp))
  go_ret2
  exact ⟨rfl, s1, wq.trans s2⟩
/-- A word that is there, where there is room. -/
theorem find_there (h : StI w S M I) (f : M.Fits d) (i : Nat) (hi : i < M.hs.length) (e : M.nd (i + 2) = d) (full : ¬ M.hs.length = M.room) :
    Calls Tryz.prog 105 #[.pointer (some ⟨S, 0, none⟩), .int .u64 (ndZ d)] w fun e w' => e = .returned (.tuple #[.int .u32 ((i : Int) + 2), .int .i64 0]) ∧ StI w' S M I ∧ Wf (Fp S I) (Fp S I) w w' := by
  obtain ⟨k0, k1⟩ := h.pu.fits_word f
  have hwd : I.wd i = ndZ d := by rw [h.pu.wd i hi, e]
  have hne : ¬ (M.hs.length : Int) = (M.room : Int) := by omega
  have hne' : ((M.hs.length : Int) == (M.room : Int)) = false := by simpa using hne
  have cS : ∀ q, (w.drewN q).cell? ⟨S, 17, none⟩ = some (.int .i64 (M.room : Int)) := fun q => (h.drewN q).c17
  have KL : ∀ q, Calls Tryz.prog 51 #[.pointer (some ⟨S, 0, none⟩)] (w.drewN q) fun e w' => e = .returned (.int .i64 (M.hs.length : Int)) ∧ w' = w.drewN q := fun q => slen_any (h.drewN q)
  have hp := h.pu
  have c17 := h.c17
  have hT : Aside (∀ (t : Nat → Int) (X : Tb.Fd), X.st = 0 → X.key = ndZ d → Tb.FI (2 * M.room) t X → Tb.Good (2 * M.room) t → Tb.Solo (2 * M.room) I.c t X → X.tells = ((X.slot : Int), 0) ∧ X.made = false ∧ t = I.c ∧ I.nm (X.slot : Int) = some ((i : Int) + 2)) := fun t X x0 xk fi gd so => by
    obtain ⟨s0, hs0, e0⟩ := hp.all i hi
    obtain ⟨e1, e2, e3⟩ := so.there fi gd x0 hs0 (by rw [e0, hwd, xk])
    subst e3
    obtain ⟨_, xl, xs⟩ := fi.found e1
    have hsl := fi.slot_lt (by have := hp.room1; omega) xl
    obtain ⟨j, hj, q1, q2⟩ := hp.tab X.slot hsl (by rw [xs, xk]; omega)
    have : j = i := by
      have := hp.word_of f hj (by rw [← q1, xs, xk])
      have := hp.ok.one (j + 2) (hp.mem_iff.2 (by omega)) (i + 2) (hp.mem_iff.2 (by omega)) (by rw [this, e])
      omega
    rw [this] at q2
    exact ⟨by unfold Tb.Fd.tells; rw [if_pos e1], e2, rfl, q2⟩
  have hmf : ∀ (fn : Fn) (first cap : Array Value) (w : World), (Instr.makeFunc fn first cap).run Tryz.prog w = .ok (.func fn first cap) w := fun _ _ _ _ => rfl
  clear hwd e full
  go_enter Tryz.func105, Tryz.ntmps105
  go_wp2_with fail
  go_quiet ((go_at_call 51; exact Calls.quiet_of_same (KL _)))
  have hq := h.drewN nq
  have wq := (Wf.refl (Fp S I) w).drewN nq
  clear cS KL c17 h
  generalize w.drewN nq = w0 at hq wq ⊢
  obtain ⟨o, f0, ht⟩ := hq.tb
  have K1 := Tb.find_any ht (ndZ d) (by omega) k1
  generalize hH : w0.heap.size = A at K1
  have hH' : Aside (w0.heap.size = A) := hH
  clear hH
  go_wp2_with (first
    | (go_at_call 119; refine K1.mono ?_; clear K1; rintro e w1 ⟨rfl, a1, b1, s1⟩; rw [← hH'.out] at b1; have ht1 := ht.below b1; have K2 := drive_find (t0 := I.c) (t := I.c) ht1 a1 (fun i => by rw [Nat.zero_add]) (Tb.FI.start ht.pos I.c (by omega)) hp.good (Tb.Solo.start _ _ _))
    | (go_at_call 115; refine K2.mono ?_; clear K2; rintro e w2 ⟨rfl, c2, o2, f2, t2, X, ht2, ct2, _, a2, x0, xk, fi, gd, so, b2⟩; obtain ⟨q1, q2, q3, q4⟩ := hT.out t2 X x0 xk fi gd so; clear x0 xk fi gd so; have K3 := Tb.slot_any a2; rw [q1] at K3; have K4 := Tb.made_any a2; rw [q2] at K4; clear q1 q2)
    | (go_at_call 121; refine K3.mono ?_; clear K3; rintro e w2 ⟨rfl, rfl⟩)
    | (go_at_call 122; refine K4.mono ?_; clear K4; rintro e w2 ⟨rfl, rfl⟩; have g : Went (fun k => k = I.P ∨ k = I.R ∨ w0.heap.size ≤ k) w0 w2 := ⟨b2.os.trans b1.os, b2.tape.trans b1.tape, b2.output.trans b1.output, Nat.le_trans b1.size b2.size, fun j hj hn => (b2.block j (Nat.lt_of_lt_of_le hj b1.size) fun e => hn (by rcases e with e | e | e; exact .inl e; exact .inr (.inl e); have := hH'.out; exact .inr (.inr (by omega)))).trans (b1.block j hj)⟩; obtain rfl : c2 = I.c := (by (funext j; have := ct2 j; rw [Nat.zero_add] at this; rw [this, q3])); obtain ⟨s1, s2⟩ := hq.turn (c' := I.c) g ht2.mem hp; clear q3 ct2; have c22 := s1.c22; have lk := map_at s1.map (X.slot : Int); have hnm' : ((I.cells I.c).nm (X.slot : Int)).getD 0 = (i : Int) + 2 := (by (show (I.nm _).getD 0 = _; rw [q4]; rfl))))
  go_ret2
  exact ⟨rfl, s1, wq.trans s2⟩
/-- A word that isn't there, where there is room. -/
theorem find_new (h : StI w S M I) (f : M.Fits d) (no : ∀ k ∈ M.hs, M.nd k ≠ d) (full : M.hs.length < M.room) :
    Calls Tryz.prog 105 #[.pointer (some ⟨S, 0, none⟩), .int .u64 (ndZ d)] w fun e w' => e = .returned (.tuple #[.int .u32 ((M.hs.length : Int) + 2), .int .i64 0]) ∧ ∃ I', I'.wd M.hs.length = ndZ d ∧ StI w' S (M.addAt d) I' ∧ Wf (Fp S I) (Fp S I') w w' := by
  obtain ⟨k0, k1⟩ := h.pu.fits_word f
  have hne : ¬ (M.hs.length : Int) = (M.room : Int) := by omega
  have hne' : ((M.hs.length : Int) == (M.room : Int)) = false := by simpa using hne
  have cS : ∀ q, (w.drewN q).cell? ⟨S, 17, none⟩ = some (.int .i64 (M.room : Int)) := fun q => (h.drewN q).c17
  have KL : ∀ q, Calls Tryz.prog 51 #[.pointer (some ⟨S, 0, none⟩)] (w.drewN q) fun e w' => e = .returned (.int .i64 (M.hs.length : Int)) ∧ w' = w.drewN q := fun q => slen_any (h.drewN q)
  have hp := h.pu
  have c17 := h.c17
  have hln := hp.len
  have hr2 := hp.room2
  have hT : Aside (∀ (t : Nat → Int) (X : Tb.Fd), X.st = 0 → X.key = ndZ d → Tb.FI (2 * M.room) t X → Tb.Solo (2 * M.room) I.c t X → X.tells = ((X.slot : Int), 0) ∧ X.made = true ∧ X.slot < 2 * M.room ∧ I.c X.slot = 0 ∧ t = upd I.c X.slot (ndZ d)) := fun t X x0 xk fi so => by
    obtain ⟨e1, e2, e3, e4, e5⟩ := so.room fi (by have := hp.room1; omega) x0 (by rw [xk]; exact hp.no_slot f no) (by rw [hp.cnt]; omega)
    rw [xk] at e5
    exact ⟨by unfold Tb.Fd.tells; rw [if_pos e1], e2, e3, e4, e5⟩
  have hmf : ∀ (fn : Fn) (first cap : Array Value) (w : World), (Instr.makeFunc fn first cap).run Tryz.prog w = .ok (.func fn first cap) w := fun _ _ _ _ => rfl
  have hno : Aside (∀ k ∈ M.hs, M.nd k ≠ d) := no
  clear no
  go_enter Tryz.func105, Tryz.ntmps105
  go_wp2_with fail
  go_quiet ((go_at_call 51; exact Calls.quiet_of_same (KL _)))
  have hq := h.drewN nq
  have wq := (Wf.refl (Fp S I) w).drewN nq
  clear cS KL c17 h
  generalize w.drewN nq = w0 at hq wq ⊢
  obtain ⟨o, f0, ht⟩ := hq.tb
  have K1 := Tb.find_any ht (ndZ d) (by omega) k1
  generalize hH : w0.heap.size = A at K1
  have hH' : Aside (w0.heap.size = A) := hH
  clear hH
  obtain ⟨p1, p2, p3, p4, p5, p6, p7, p8, p9⟩ := hq.apart
  go_wp2_with (first
    | (go_at_call 119; refine K1.mono ?_; clear K1; rintro e w1 ⟨rfl, a1, b1, s1⟩; rw [← hH'.out] at b1; have ht1 := ht.below b1; have K2 := drive_find (t0 := I.c) (t := I.c) ht1 a1 (fun i => by rw [Nat.zero_add]) (Tb.FI.start ht.pos I.c (by omega)) hp.good (Tb.Solo.start _ _ _))
    | (go_at_call 115; refine K2.mono ?_; clear K2; rintro e w2 ⟨rfl, c2, o2, f2, t2, X, ht2, ct2, cb2, a2, x0, xk, fi, gd, so, b2⟩; obtain ⟨q1, q2, q3, q4, q5⟩ := hT.out t2 X x0 xk fi so; clear x0 xk fi so; have K3 := Tb.slot_any a2; rw [q1] at K3; have K4 := Tb.made_any a2; rw [q2] at K4; clear q1 q2)
    | (go_at_call 121; refine K3.mono ?_; clear K3; rintro e w2 ⟨rfl, rfl⟩)
    | (go_at_call 122; refine K4.mono ?_; clear K4; rintro e w2 ⟨rfl, rfl⟩; have g : Went (fun k => k = I.P ∨ k = I.R ∨ w0.heap.size ≤ k) w0 w2 := ⟨b2.os.trans b1.os, b2.tape.trans b1.tape, b2.output.trans b1.output, Nat.le_trans b1.size b2.size, fun j hj hn => (b2.block j (Nat.lt_of_lt_of_le hj b1.size) fun e => hn (by rcases e with e | e | e; exact .inl e; exact .inr (.inl e); have := hH'.out; exact .inr (.inr (by omega)))).trans (b1.block j hj)⟩; have kp : Aside (∀ b, b < w0.heap.size → b ≠ I.P → b ≠ I.R → w2.heap[b]? = w0.heap[b]?) := (fun b hb h1 h2 => g.block b hb fun e => by rcases e with e | e | e <;> omega); have blk2 := hq.blk.of_block (kp.out S hq.ltS p1 p2); have own2 := hq.own.kept (w' := w2) fun b hb => kp.out b (hq.own.block b hb).2 (fun e => p7 (e ▸ hb)) (fun e => p8 (e ▸ hb)); have map2 := hq.map.same (kp.out I.mp hq.map.lt p4 p5); have K5 := name_any blk2 own2 map2 X.slot (ndZ d) hln)
    | (go_at_call 123; refine K5.mono ?_; clear K5; rintro e w3 ⟨rfl, g3, cap3, blk3, own3, map3, wt3, at3⟩; have c22 : w3.cell? ⟨S, 22, none⟩ = some (.map (some I.mp)) := blk3.cell (i := 22) (by omega); have lk := map_at map3 (X.slot : Int); have hnm' : (at1 I.nm (X.slot : Int) (some ((M.hs.length : Int) + 2)) (X.slot : Int)).getD 0 = (M.hs.length : Int) + 2 := (by unfold at1; rw [if_pos rfl]; rfl)))
  go_ret2
  have ec : ∀ j, c2 j = upd I.c X.slot (ndZ d) j := fun j => by rw [← q5, ← ct2 j, Nat.zero_add]
  have hfit : Ch.U64 c2 := fun j => by
    rw [ec j]
    unfold upd
    split
    · omega
    · exact hp.fit j
  have t2c : t2 = c2 := by funext j; rw [q5, ec j]
  rw [t2c] at gd
  have hpu := hp.add f hno.out full q3 q4 (fun j _ => ec j) (fun j hj => cb2 j (.inr (by omega))) hfit gd g3 cap3
  refine ⟨rfl, I.grown M.hs.length (ndZ d) X.slot g3 cap3 c2, if_pos rfl, ⟨?_, ?_, ?_, map3, hpu⟩, ?_⟩
  · have e : (M.addAt d).hs.length = M.hs.length + 1 := by simp [Mdl.addAt]
    rw [e]
    exact blk3
  · refine ⟨o2, f2, ht2.mem.of_blocks (wt3.block _ ht2.mem.ltP ?_) (wt3.block _ ht2.mem.ltR ?_)⟩
    · rintro (e | e | e)
      · exact p1 e.symm
      · exact p4 e.symm
      · exact p7 e
    · rintro (e | e | e)
      · exact p2 e.symm
      · exact p5 e.symm
      · exact p8 e
  · have e : (M.addAt d).hs.length = M.hs.length + 1 := by simp [Mdl.addAt]
    rw [e]
    exact own3
  · refine wq.trans ⟨wt3.os.trans g.os, wt3.tape.trans g.tape, wt3.output.trans g.output, Nat.le_trans g.size wt3.size, fun k hk hf => (wt3.block k (Nat.lt_of_lt_of_le hk g.size) ?_).trans (kp.out k hk (fun e => hf (.inr (.inl e))) fun e => hf (.inr (.inr (.inl e)))), fun k hk => ?_⟩
    · rintro (e | e | e)
      · exact hf (.inl e)
      · exact hf (.inr (.inr (.inr (.inl e))))
      · exact hf (.inr (.inr (.inr (.inr e))))
    · rcases hk with e | e | e | e | ⟨a, ha, e⟩
      · exact .inl (.inl e)
      · exact .inl (.inr (.inl e))
      · exact .inl (.inr (.inr (.inl e)))
      · exact .inl (.inr (.inr (.inr (.inl e))))
      · cases ha
        rw [← e]
        rcases at3 with at3 | at3
        · exact .inl (.inr (.inr (.inr (.inr at3))))
        · exact .inr (Nat.le_trans g.size at3)
end
end Go.Proofs.YtdjjelknjojnfaaGreat

namespace Go.Proofs.YtdjjelknjojnfaaGreat
open Go Go.RowKit

section
variable {w w' : World} {S : Nat} {M : Mdl} {I : Ins} {d : Nd}
theorem inner_there (h : StI w S M I) (f : M.Fits d) (i : Nat) (hi : i < M.hs.length) (e : M.nd (i + 2) = d) :
    Calls Tryz.prog 93 #[.pointer (some ⟨S, 0, none⟩), .int .u64 (ndZ d)] w fun e w' => e = .returned (.tuple #[.int .u32 ((i : Int) + 2), .int .i64 0]) ∧ ∃ I', StI w' S M I' ∧ Wf (Fp S I) (Fp S I') w w' := by
  obtain ⟨k0, k1⟩ := h.pu.fits_word f
  have hwd : Aside (I.wd i = ndZ d) := by simp only [Aside]; rw [h.pu.wd i hi, e]
  have K1 := recall_any h (ndZ d) (by omega) k1
  have F : Aside (∀ {w : World}, StI w S M I → Calls Tryz.prog 105 #[.pointer (some ⟨S, 0, none⟩), .int .u64 (ndZ d)] w fun e w' => e = .returned (.tuple #[.int .u32 ((i : Int) + 2), .int .i64 0]) ∧ StI w' S M I ∧ Wf (Fp S I) (Fp S I) w w') := fun {w} h => by
    by_cases full : M.hs.length = M.room
    · exact find_full_there h f i hi e full
    · exact find_there h f i hi e full
  have hT : Aside (∀ x j : Nat, j < M.hs.length → ndZ d = I.wd j → x = j + 2 → x = i + 2) := fun x j hj ej ex => by
    have := h.pu.word_of f hj ej
    have := h.pu.ok.one (j + 2) (h.pu.mem_iff.2 (by omega)) (i + 2) (h.pu.mem_iff.2 (by omega)) (by rw [this, e])
    omega
  clear e
  go_enter Tryz.func93, Tryz.ntmps93
  go_wp2_with (first
    | (go_at_call 104; refine K1.mono ?_; clear K1; rintro e w1 ⟨x, ok, rfl, told, h1, b1⟩; have K2 := F.out h1)
    | (go_at_call 105; refine K2.mono ?_; clear K2; rintro e w2 ⟨rfl, h2, b2⟩; have K3 := keep_any h2 i hi; rw [hwd.out] at K3)
    | (go_at_call 106; refine K3.mono ?_; clear K3; rintro e w3 ⟨rfl, c3, h3, b3⟩))
  · go_ret2
    obtain ⟨j, hj, ej, ex⟩ := told.out ‹_›
    obtain rfl := hT.out x j hj ej ex
    exact ⟨by simp, I, h1, b1⟩
  · go_ret2
    exact ⟨rfl, _, h3, (b1.trans b2).trans b3⟩
theorem inner_full (h : StI w S M I) (f : M.Fits d) (no : ∀ k ∈ M.hs, M.nd k ≠ d) (full : M.hs.length = M.room) :
    Calls Tryz.prog 93 #[.pointer (some ⟨S, 0, none⟩), .int .u64 (ndZ d)] w fun e w' => e = .returned (.tuple #[.int .u32 0, .int .i64 60]) ∧ ∃ I', StI w' S M I' ∧ Wf (Fp S I) (Fp S I') w w' := by
  obtain ⟨k0, k1⟩ := h.pu.fits_word f
  have K1 := recall_any h (ndZ d) (by omega) k1
  have F : Aside (∀ {w : World}, StI w S M I → _) := fun {w} (h : StI w S M I) => find_full_no h f no full
  have hT : Aside (∀ j : Nat, j < M.hs.length → ¬ ndZ d = I.wd j) := fun j hj ej => no (j + 2) (h.pu.mem_iff.2 (by omega)) (h.pu.word_of f hj ej)
  clear no full
  go_enter Tryz.func93, Tryz.ntmps93
  go_wp2_with (first
    | (go_at_call 104; refine K1.mono ?_; clear K1; rintro e w1 ⟨x, ok, rfl, told, h1, b1⟩; have K2 := F.out h1)
    | (go_at_call 105; refine K2.mono ?_; clear K2; rintro e w2 ⟨rfl, h2, b2⟩))
  · obtain ⟨j, hj, ej, ex⟩ := told.out ‹_›
    exact absurd ej (hT.out j hj)
  · go_ret2
    exact ⟨rfl, _, h2, b1.trans b2⟩
theorem inner_new (h : StI w S M I) (f : M.Fits d) (no : ∀ k ∈ M.hs, M.nd k ≠ d) (room : M.hs.length < M.room) :
    Calls Tryz.prog 93 #[.pointer (some ⟨S, 0, none⟩), .int .u64 (ndZ d)] w fun e w' => e = .returned (.tuple #[.int .u32 ((M.hs.length : Int) + 2), .int .i64 0]) ∧ ∃ I', StI w' S (M.addAt d) I' ∧ Wf (Fp S I) (Fp S I') w w' := by
  obtain ⟨k0, k1⟩ := h.pu.fits_word f
  have K1 := recall_any h (ndZ d) (by omega) k1
  have F : Aside (∀ {w : World}, StI w S M I → _) := fun {w} (h : StI w S M I) => find_new h f no room
  have hT : Aside (∀ j : Nat, j < M.hs.length → ¬ ndZ d = I.wd j) := fun j hj ej => no (j + 2) (h.pu.mem_iff.2 (by omega)) (h.pu.word_of f hj ej)
  have hl : M.hs.length < (M.addAt d).hs.length := by simp [Mdl.addAt]
  clear no room
  go_enter Tryz.func93, Tryz.ntmps93
  go_wp2_with (first
    | (go_at_call 104; refine K1.mono ?_; clear K1; rintro e w1 ⟨x, ok, rfl, told, h1, b1⟩; have K2 := F.out h1)
    | (go_at_call 105; refine K2.mono ?_; clear K2; rintro e w2 ⟨rfl, I2, e2, h2, b2⟩; have K3 := keep_any h2 M.hs.length hl; rw [e2] at K3; clear e2)
    | (go_at_call 106; refine K3.mono ?_; clear K3; rintro e w3 ⟨rfl, c3, h3, b3⟩))
  · obtain ⟨j, hj, ej, ex⟩ := told.out ‹_›
    exact absurd ej (hT.out j hj)
  · go_ret2
    exact ⟨rfl, _, h3, (b1.trans b2).trans b3⟩

/-- No such level. -/
theorem mk_var (h : StI w S M I) (l : Int) (x y : Value) (hl : l < 0 ∨ (M.n : Int) ≤ l) :
    Calls Tryz.prog 78 #[.pointer (some ⟨S, 0, none⟩), .int .i64 l, x, y] w fun e w' => e = .returned (.tuple #[.int .u32 0, .int .i64 40]) ∧ w' = w := by
  have K := vars_any h
  by_cases h1 : l < 0
  · clear hl
    go_enter Tryz.func78, Tryz.ntmps78
    go_wp2_with (first
      | (go_at_call 42; refine K.mono ?_; clear K; rintro e w ⟨rfl, rfl⟩))
    go_ret2
    exact ⟨rfl, rfl⟩
  · have h2 : (M.n : Int) ≤ l := by omega
    clear hl
    go_enter Tryz.func78, Tryz.ntmps78
    go_wp2_with (first
      | (go_at_call 42; refine K.mono ?_; clear K; rintro e w ⟨rfl, rfl⟩))
    go_ret2
    exact ⟨rfl, rfl⟩
/-- No node. -/
theorem mk_node (h : StI w S M I) (l a b : Nat) (hl : l < M.n) (ha : a < 4294967296) (hb : b < 4294967296) (hn : ¬ M.isNode a ∨ ¬ M.isNode b) :
    Calls Tryz.prog 78 #[.pointer (some ⟨S, 0, none⟩), .int .i64 (l : Int), .int .u32 (a : Int), .int .u32 (b : Int)] w fun e w' => e = .returned (.tuple #[.int .u32 0, .int .i64 101]) ∧ w' = w := by
  have K := vars_any h
  have h1 : ¬ (l : Int) < 0 := by omega
  have h2 : ¬ (M.n : Int) ≤ (l : Int) := by omega
  have h3 : ¬ M.n ≤ l := by omega
  have Ka := is_any h a ha
  have Kb := is_any h b hb
  by_cases na : M.isNode a
  · have nb : ¬ M.isNode b := hn.resolve_left (fun e => e na)
    rw [Mdl.nodeB_true na] at Ka
    rw [Mdl.nodeB_false nb] at Kb
    clear na nb hn hl
    go_enter Tryz.func78, Tryz.ntmps78
    go_wp2_with (first
      | (go_at_call 42; refine K.mono ?_; clear K; rintro e w ⟨rfl, rfl⟩)
      | (go_at_call 31; refine Ka.mono ?_; clear Ka; rintro e w ⟨rfl, rfl⟩)
      | (go_at_call 31; refine Kb.mono ?_; clear Kb; rintro e w ⟨rfl, rfl⟩))
    go_ret2
    exact ⟨rfl, rfl⟩
  · rw [Mdl.nodeB_false na] at Ka
    clear na hn Kb hl
    go_enter Tryz.func78, Tryz.ntmps78
    go_wp2_with (first
      | (go_at_call 42; refine K.mono ?_; clear K; rintro e w ⟨rfl, rfl⟩)
      | (go_at_call 31; refine Ka.mono ?_; clear Ka; rintro e w ⟨rfl, rfl⟩))
    go_ret2
    exact ⟨rfl, rfl⟩
/-- Not deeper. -/
theorem mk_level (h : StI w S M I) (l a b : Nat) (hl : l < M.n) (na : M.isNode a) (nb : M.isNode b) (hn : M.lev a ≤ l ∨ M.lev b ≤ l) :
    Calls Tryz.prog 78 #[.pointer (some ⟨S, 0, none⟩), .int .i64 (l : Int), .int .u32 (a : Int), .int .u32 (b : Int)] w fun e w' => e = .returned (.tuple #[.int .u32 0, .int .i64 100]) ∧ w' = w := by
  have o := h.pu.ok
  have K := vars_any h
  have h1 : ¬ (l : Int) < 0 := by omega
  have h2 : ¬ (M.n : Int) ≤ (l : Int) := by omega
  have h3 : ¬ M.n ≤ l := by omega
  have ha := Mdl.isNode_lt o na
  have hb := Mdl.isNode_lt o nb
  have Ka := is_any h a (by omega)
  have Kb := is_any h b (by omega)
  have La := level_any h a (by omega)
  have Lb := level_any h b (by omega)
  rw [Mdl.levI_node na] at La
  rw [Mdl.levI_node nb] at Lb
  rw [Mdl.nodeB_true na] at Ka
  rw [Mdl.nodeB_true nb] at Kb
  clear na nb
  generalize M.lev a = p at La hn
  generalize M.lev b = q at Lb hn
  by_cases hqp : q < p
  · have e1 : (q : Int) < (p : Int) := by omega
    have e2 : q ≤ l := by omega
    have e3 : (q : Int) ≤ (l : Int) := by omega
    clear hn hl
    go_enter Tryz.func78, Tryz.ntmps78
    go_wp2_with (first
      | (go_at_call 42; refine K.mono ?_; clear K; rintro e w ⟨rfl, rfl⟩)
      | (go_at_call 31; refine Ka.mono ?_; clear Ka; rintro e w ⟨rfl, rfl⟩)
      | (go_at_call 31; refine Kb.mono ?_; clear Kb; rintro e w ⟨rfl, rfl⟩)
      | (go_at_call 53; refine La.mono ?_; clear La; rintro e w ⟨rfl, rfl⟩)
      | (go_at_call 53; refine Lb.mono ?_; clear Lb; rintro e w ⟨rfl, rfl⟩))
    go_ret2
    exact ⟨rfl, rfl⟩
  · have e1 : ¬ (q : Int) < (p : Int) := by omega
    have e2 : p ≤ l := by omega
    have e3 : (p : Int) ≤ (l : Int) := by omega
    clear hn hl
    go_enter Tryz.func78, Tryz.ntmps78
    go_wp2_with (first
      | (go_at_call 42; refine K.mono ?_; clear K; rintro e w ⟨rfl, rfl⟩)
      | (go_at_call 31; refine Ka.mono ?_; clear Ka; rintro e w ⟨rfl, rfl⟩)
      | (go_at_call 31; refine Kb.mono ?_; clear Kb; rintro e w ⟨rfl, rfl⟩)
      | (go_at_call 53; refine La.mono ?_; clear La; rintro e w ⟨rfl, rfl⟩)
      | (go_at_call 53; refine Lb.mono ?_; clear Lb; rintro e w ⟨rfl, rfl⟩))
    go_ret2
    exact ⟨rfl, rfl⟩
/-- The same twice. -/
theorem mk_same (h : StI w S M I) (l a : Nat) (hl : l < M.lev a) (na : M.isNode a) :
    Calls Tryz.prog 78 #[.pointer (some ⟨S, 0, none⟩), .int .i64 (l : Int), .int .u32 (a : Int), .int .u32 (a : Int)] w fun e w' => e = .returned (.tuple #[.int .u32 (a : Int), .int .i64 0]) ∧ w' = w := by
  have o := h.pu.ok
  have hln : l < M.n := by have := Mdl.lev_le o na; omega
  have K := vars_any h
  have h1 : ¬ (l : Int) < 0 := by omega
  have h2 : ¬ (M.n : Int) ≤ (l : Int) := by omega
  have h3 : ¬ M.n ≤ l := by omega
  have ha := Mdl.isNode_lt o na
  have Ka := is_any h a (by omega)
  have La := level_any h a (by omega)
  rw [Mdl.levI_node na] at La
  rw [Mdl.nodeB_true na] at Ka
  have Kb := Ka
  have Lb := La
  clear na hln
  generalize M.lev a = p at La Lb hl
  have e1 : ¬ (p : Int) < (p : Int) := by omega
  have e2 : ¬ p ≤ l := by omega
  have e3 : ¬ (p : Int) ≤ (l : Int) := by omega
  clear hl
  go_enter Tryz.func78, Tryz.ntmps78
  go_wp2_with (first
    | (go_at_call 42; refine K.mono ?_; clear K; rintro e w ⟨rfl, rfl⟩)
    | (go_at_call 31; refine Ka.mono ?_; clear Ka; rintro e w ⟨rfl, rfl⟩)
    | (go_at_call 31; refine Kb.mono ?_; clear Kb; rintro e w ⟨rfl, rfl⟩)
    | (go_at_call 53; refine La.mono ?_; clear La; rintro e w ⟨rfl, rfl⟩)
    | (go_at_call 53; refine Lb.mono ?_; clear Lb; rintro e w ⟨rfl, rfl⟩))
  go_ret2
  exact ⟨rfl, rfl⟩
/-- It is there. -/
theorem mk_there (h : StI w S M I) (l a b : Nat) (f : M.Fits (l, a, b)) (i : Nat) (hi : i < M.hs.length) (e : M.nd (i + 2) = (l, a, b)) :
    Calls Tryz.prog 78 #[.pointer (some ⟨S, 0, none⟩), .int .i64 (l : Int), .int .u32 (a : Int), .int .u32 (b : Int)] w fun e w' => e = .returned (.tuple #[.int .u32 ((i : Int) + 2), .int .i64 0]) ∧ ∃ I', StI w' S M I' ∧ Wf (Fp S I) (Fp S I') w w' := by
  have o := h.pu.ok
  have hl := f.lv
  have na := f.lo.1
  have nb := f.hi.1
  have la := f.lo.2
  have lb := f.hi.2
  have hab := f.ne
  simp only at hl na nb la lb hab
  have K := vars_any h
  have h1 : ¬ (l : Int) < 0 := by omega
  have h2 : ¬ (M.n : Int) ≤ (l : Int) := by omega
  have h3 : ¬ M.n ≤ l := by omega
  have ha := Mdl.isNode_lt o na
  have hb := Mdl.isNode_lt o nb
  have hl8 := o.le8
  have Ka := is_any h a (by omega)
  have Kb := is_any h b (by omega)
  have La := level_any h a (by omega)
  have Lb := level_any h b (by omega)
  rw [Mdl.levI_node na] at La
  rw [Mdl.levI_node nb] at Lb
  rw [Mdl.nodeB_true na] at Ka
  rw [Mdl.nodeB_true nb] at Kb
  have Kn := bnode_any (l : Int) (a : Int) (b : Int) w (by omega) (by omega) (by omega)
  have Ki := inner_there h f i hi e
  change Calls _ _ #[_, .int .u64 (nodeZ (l : Int) (a : Int) (b : Int))] _ _ at Ki
  have hwl : IntKind.u8.wrap (l : Int) = (l : Int) := by rw [IntKind.wrap_u8]; omega
  have hne : ¬ (a : Int) = (b : Int) := by omega
  have hne' : ((a : Int) == (b : Int)) = false := by simpa using hne
  clear na nb hab
  generalize M.lev a = p at La la
  generalize M.lev b = q at Lb lb
  by_cases hqp : q < p
  · have e1 : (q : Int) < (p : Int) := by omega
    have e2 : ¬ q ≤ l := by omega
    have e3 : ¬ (q : Int) ≤ (l : Int) := by omega
    clear la lb hl hqp
    go_enter Tryz.func78, Tryz.ntmps78
    go_wp2_with (first
      | (go_at_call 42; refine K.mono ?_; clear K; rintro e w ⟨rfl, rfl⟩)
      | (go_at_call 31; refine Ka.mono ?_; clear Ka; rintro e w ⟨rfl, rfl⟩)
      | (go_at_call 31; refine Kb.mono ?_; clear Kb; rintro e w ⟨rfl, rfl⟩)
      | (go_at_call 53; refine La.mono ?_; clear La; rintro e w ⟨rfl, rfl⟩)
      | (go_at_call 53; refine Lb.mono ?_; clear Lb; rintro e w ⟨rfl, rfl⟩)
      | (go_at_call 94; refine Kn.mono ?_; clear Kn; rintro e w ⟨rfl, rfl⟩)
      | (go_at_call 93; refine Ki.mono ?_; clear Ki; rintro e w2 ⟨rfl, I2, h2, b2⟩))
    go_ret2
    exact ⟨rfl, I2, h2, b2⟩
  · have e1 : ¬ (q : Int) < (p : Int) := by omega
    have e2 : ¬ p ≤ l := by omega
    have e3 : ¬ (p : Int) ≤ (l : Int) := by omega
    clear la lb hl hqp
    go_enter Tryz.func78, Tryz.ntmps78
    go_wp2_with (first
      | (go_at_call 42; refine K.mono ?_; clear K; rintro e w ⟨rfl, rfl⟩)
      | (go_at_call 31; refine Ka.mono ?_; clear Ka; rintro e w ⟨rfl, rfl⟩)
      | (go_at_call 31; refine Kb.mono ?_; clear Kb; rintro e w ⟨rfl, rfl⟩)
      | (go_at_call 53; refine La.mono ?_; clear La; rintro e w ⟨rfl, rfl⟩)
      | (go_at_call 53; refine Lb.mono ?_; clear Lb; rintro e w ⟨rfl, rfl⟩)
      | (go_at_call 94; refine Kn.mono ?_; clear Kn; rintro e w ⟨rfl, rfl⟩)
      | (go_at_call 93; refine Ki.mono ?_; clear Ki; rintro e w2 ⟨rfl, I2, h2, b2⟩))
    go_ret2
    exact ⟨rfl, I2, h2, b2⟩
/-- There is no room. -/
theorem mk_full (h : StI w S M I) (l a b : Nat) (f : M.Fits (l, a, b)) (no : ∀ k ∈ M.hs, M.nd k ≠ (l, a, b)) (full : M.hs.length = M.room) :
    Calls Tryz.prog 78 #[.pointer (some ⟨S, 0, none⟩), .int .i64 (l : Int), .int .u32 (a : Int), .int .u32 (b : Int)] w fun e w' => e = .returned (.tuple #[.int .u32 0, .int .i64 60]) ∧ ∃ I', StI w' S M I' ∧ Wf (Fp S I) (Fp S I') w w' := by
  have o := h.pu.ok
  have hl := f.lv
  have na := f.lo.1
  have nb := f.hi.1
  have la := f.lo.2
  have lb := f.hi.2
  have hab := f.ne
  simp only at hl na nb la lb hab
  have K := vars_any h
  have h1 : ¬ (l : Int) < 0 := by omega
  have h2 : ¬ (M.n : Int) ≤ (l : Int) := by omega
  have h3 : ¬ M.n ≤ l := by omega
  have ha := Mdl.isNode_lt o na
  have hb := Mdl.isNode_lt o nb
  have hl8 := o.le8
  have Ka := is_any h a (by omega)
  have Kb := is_any h b (by omega)
  have La := level_any h a (by omega)
  have Lb := level_any h b (by omega)
  rw [Mdl.levI_node na] at La
  rw [Mdl.levI_node nb] at Lb
  rw [Mdl.nodeB_true na] at Ka
  rw [Mdl.nodeB_true nb] at Kb
  have Kn := bnode_any (l : Int) (a : Int) (b : Int) w (by omega) (by omega) (by omega)
  have Ki := inner_full h f no full
  change Calls _ _ #[_, .int .u64 (nodeZ (l : Int) (a : Int) (b : Int))] _ _ at Ki
  have hwl : IntKind.u8.wrap (l : Int) = (l : Int) := by rw [IntKind.wrap_u8]; omega
  have hne : ¬ (a : Int) = (b : Int) := by omega
  have hne' : ((a : Int) == (b : Int)) = false := by simpa using hne
  clear na nb hab
  generalize M.lev a = p at La la
  generalize M.lev b = q at Lb lb
  by_cases hqp : q < p
  · have e1 : (q : Int) < (p : Int) := by omega
    have e2 : ¬ q ≤ l := by omega
    have e3 : ¬ (q : Int) ≤ (l : Int) := by omega
    clear la lb hl hqp
    go_enter Tryz.func78, Tryz.ntmps78
    go_wp2_with (first
      | (go_at_call 42; refine K.mono ?_; clear K; rintro e w ⟨rfl, rfl⟩)
      | (go_at_call 31; refine Ka.mono ?_; clear Ka; rintro e w ⟨rfl, rfl⟩)
      | (go_at_call 31; refine Kb.mono ?_; clear Kb; rintro e w ⟨rfl, rfl⟩)
      | (go_at_call 53; refine La.mono ?_; clear La; rintro e w ⟨rfl, rfl⟩)
      | (go_at_call 53; refine Lb.mono ?_; clear Lb; rintro e w ⟨rfl, rfl⟩)
      | (go_at_call 94; refine Kn.mono ?_; clear Kn; rintro e w ⟨rfl, rfl⟩)
      | (go_at_call 93; refine Ki.mono ?_; clear Ki; rintro e w2 ⟨rfl, I2, h2, b2⟩))
    go_ret2
    exact ⟨rfl, I2, h2, b2⟩
  · have e1 : ¬ (q : Int) < (p : Int) := by omega
    have e2 : ¬ p ≤ l := by omega
    have e3 : ¬ (p : Int) ≤ (l : Int) := by omega
    clear la lb hl hqp
    go_enter Tryz.func78, Tryz.ntmps78
    go_wp2_with (first
      | (go_at_call 42; refine K.mono ?_; clear K; rintro e w ⟨rfl, rfl⟩)
      | (go_at_call 31; refine Ka.mono ?_; clear Ka; rintro e w ⟨rfl, rfl⟩)
      | (go_at_call 31; refine Kb.mono ?_; clear Kb; rintro e w ⟨rfl, rfl⟩)
      | (go_at_call 53; refine La.mono ?_; clear La; rintro e w ⟨rfl, rfl⟩)
      | (go_at_call 53; refine Lb.mono ?_; clear Lb; rintro e w ⟨rfl, rfl⟩)
      | (go_at_call 94; refine Kn.mono ?_; clear Kn; rintro e w ⟨rfl, rfl⟩)
      | (go_at_call 93; refine Ki.mono ?_; clear Ki; rintro e w2 ⟨rfl, I2, h2, b2⟩))
    go_ret2
    exact ⟨rfl, I2, h2, b2⟩
/-- It is made. -/
theorem mk_new (h : StI w S M I) (l a b : Nat) (f : M.Fits (l, a, b)) (no : ∀ k ∈ M.hs, M.nd k ≠ (l, a, b)) (room : M.hs.length < M.room) :
    Calls Tryz.prog 78 #[.pointer (some ⟨S, 0, none⟩), .int .i64 (l : Int), .int .u32 (a : Int), .int .u32 (b : Int)] w fun e w' => e = .returned (.tuple #[.int .u32 ((M.hs.length : Int) + 2), .int .i64 0]) ∧ ∃ I', StI w' S (M.addAt (l, a, b)) I' ∧ Wf (Fp S I) (Fp S I') w w' := by
  have o := h.pu.ok
  have hl := f.lv
  have na := f.lo.1
  have nb := f.hi.1
  have la := f.lo.2
  have lb := f.hi.2
  have hab := f.ne
  simp only at hl na nb la lb hab
  have K := vars_any h
  have h1 : ¬ (l : Int) < 0 := by omega
  have h2 : ¬ (M.n : Int) ≤ (l : Int) := by omega
  have h3 : ¬ M.n ≤ l := by omega
  have ha := Mdl.isNode_lt o na
  have hb := Mdl.isNode_lt o nb
  have hl8 := o.le8
  have Ka := is_any h a (by omega)
  have Kb := is_any h b (by omega)
  have La := level_any h a (by omega)
  have Lb := level_any h b (by omega)
  rw [Mdl.levI_node na] at La
  rw [Mdl.levI_node nb] at Lb
  rw [Mdl.nodeB_true na] at Ka
  rw [Mdl.nodeB_true nb] at Kb
  have Kn := bnode_any (l : Int) (a : Int) (b : Int) w (by omega) (by omega) (by omega)
  have Ki := inner_new h f no room
  change Calls _ _ #[_, .int .u64 (nodeZ (l : Int) (a : Int) (b : Int))] _ _ at Ki
  have hwl : IntKind.u8.wrap (l : Int) = (l : Int) := by rw [IntKind.wrap_u8]; omega
  have hne : ¬ (a : Int) = (b : Int) := by omega
  have hne' : ((a : Int) == (b : Int)) = false := by simpa using hne
  clear na nb hab
  generalize M.lev a = p at La la
  generalize M.lev b = q at Lb lb
  by_cases hqp : q < p
  · have e1 : (q : Int) < (p : Int) := by omega
    have e2 : ¬ q ≤ l := by omega
    have e3 : ¬ (q : Int) ≤ (l : Int) := by omega
    clear la lb hl hqp
    go_enter Tryz.func78, Tryz.ntmps78
    go_wp2_with (first
      | (go_at_call 42; refine K.mono ?_; clear K; rintro e w ⟨rfl, rfl⟩)
      | (go_at_call 31; refine Ka.mono ?_; clear Ka; rintro e w ⟨rfl, rfl⟩)
      | (go_at_call 31; refine Kb.mono ?_; clear Kb; rintro e w ⟨rfl, rfl⟩)
      | (go_at_call 53; refine La.mono ?_; clear La; rintro e w ⟨rfl, rfl⟩)
      | (go_at_call 53; refine Lb.mono ?_; clear Lb; rintro e w ⟨rfl, rfl⟩)
      | (go_at_call 94; refine Kn.mono ?_; clear Kn; rintro e w ⟨rfl, rfl⟩)
      | (go_at_call 93; refine Ki.mono ?_; clear Ki; rintro e w2 ⟨rfl, I2, h2, b2⟩))
    go_ret2
    exact ⟨rfl, I2, h2, b2⟩
  · have e1 : ¬ (q : Int) < (p : Int) := by omega
    have e2 : ¬ p ≤ l := by omega
    have e3 : ¬ (p : Int) ≤ (l : Int) := by omega
    clear la lb hl hqp
    go_enter Tryz.func78, Tryz.ntmps78
    go_wp2_with (first
      | (go_at_call 42; refine K.mono ?_; clear K; rintro e w ⟨rfl, rfl⟩)
      | (go_at_call 31; refine Ka.mono ?_; clear Ka; rintro e w ⟨rfl, rfl⟩)
      | (go_at_call 31; refine Kb.mono ?_; clear Kb; rintro e w ⟨rfl, rfl⟩)
      | (go_at_call 53; refine La.mono ?_; clear La; rintro e w ⟨rfl, rfl⟩)
      | (go_at_call 53; refine Lb.mono ?_; clear Lb; rintro e w ⟨rfl, rfl⟩)
      | (go_at_call 94; refine Kn.mono ?_; clear Kn; rintro e w ⟨rfl, rfl⟩)
      | (go_at_call 93; refine Ki.mono ?_; clear Ki; rintro e w2 ⟨rfl, I2, h2, b2⟩))
    go_ret2
    exact ⟨rfl, I2, h2, b2⟩
end
end Go.Proofs.YtdjjelknjojnfaaGreat

namespace Go.Proofs.YtdjjelknjojnfaaGreat
open Go Go.RowKit

section
variable {P : Program} {ops : Array Oper} {Q : Exit → Act → World → Prop}

/-- The operations that are still to come. -/
def toCome (n : Nat) (listed : Array Bool) : List Nat := (List.range n).filter fun j => !listed.getD j true

theorem toCome_set {n i : Nat} {listed : Array Bool} (hn : listed.size = n) (hi : listed.getD i true = false) : (toCome n (listed.setIfInBounds i true)).length < (toCome n listed).length := by
  have hlt : i < listed.size := by
    rcases Nat.lt_or_ge i listed.size with h | h
    · exact h
    · simp [Array.getElem?_eq_none h] at hi
  have e : toCome n (listed.setIfInBounds i true) = (toCome n listed).filter fun j => decide (j ≠ i) := by
    unfold toCome
    rw [List.filter_filter]
    apply List.filter_congr
    intro j _
    by_cases h : i = j
    · subst h; simp [hlt]
    · rw [getD_set_ne true h]
      have : j ≠ i := fun e => h e.symm
      simp [this]
  rw [e, List.length_filter_lt_length_iff_exists]
  refine ⟨i, ?_, by simp⟩
  unfold toCome
  rw [List.mem_filter, List.mem_range]
  exact ⟨by omega, by rw [hi]; rfl⟩

/-- Every operation waits for earlier ones alone. -/
def waitsBack (ops : Array Oper) : Bool := (List.range ops.size).all fun i => ((ops[i]?).map (·.after.all fun e => decide (e.on < i))).getD true

theorem ready_some {listed : Array Bool} (hw : waitsBack ops = true) (hn : listed.size = ops.size) (h : Region.ready .any ops listed = []) : ∀ j, j < ops.size → listed.getD j false = true := by
  intro j
  induction j using Nat.strongRecOn with
  | _ j ih =>
    intro hj
    by_cases hl : listed.getD j true = false
    · have ho : ops[j]? = some ops[j] := Array.getElem?_eq_getElem hj
      have : j ∈ Region.ready .any ops listed := by
        rw [mem_ready]
        refine ⟨hl, _, ho, fun e he _ => ?_⟩
        have h1 := List.all_eq_true.1 hw j (List.mem_range.2 hj)
        rw [ho] at h1
        simp only [Option.map_some, Option.getD_some, Array.all_eq_true_iff_forall_mem, decide_eq_true_eq] at h1
        have h2 := h1 e he
        exact ih e.on h2 (by omega)
      rw [h] at this
      cases this
    · have hlt : j < listed.size := by omega
      simp [hlt] at hl ⊢
      exact hl

end

/-! ### The rule of Posts, with what is listed closed under what it waits for -/
section
variable {P : Program} {ops : Array Oper} {Q : Exit → Act → World → Prop}
theorem wpAny_posts' (G : Act → World → Prop) (Post : Nat → Act → World → Prop) (hw : waitsBack ops = true)
    (step : ∀ i o a w, ops[i]? = some o → G a w → (∀ e ∈ o.after, Region.binds .any e = true → Post e.on a w) → wpOp P ops Q i (fun a' w' => G a' w' ∧ Post i a' w' ∧ ∀ j o', j ≠ i → ops[j]? = some o' → (∀ e ∈ o'.after, Region.binds .any e = true → e.on ≠ i) → Post j a w → Post j a' w') a w)
    (done : ∀ a w, G a w → (∀ i, i < ops.size → Post i a w) → Q .normal a w) :
    ∀ (fuel : Nat) (listed : Array Bool) (a : Act) (w : World), listed.size = ops.size → (toCome ops.size listed).length ≤ fuel → G a w → (∀ j, listed.getD j false = true → Post j a w) → (∀ j o, listed.getD j false = true → ops[j]? = some o → ∀ e ∈ o.after, Region.binds .any e = true → listed.getD e.on false = true) → wpAny P .any ops Q fuel listed a w := by
  intro fuel
  induction fuel with
  | zero =>
    intro listed a w hn hc hG hP _
    have hr : Region.ready .any ops listed = [] := by
      cases hr : Region.ready .any ops listed with
      | nil => rfl
      | cons i rs =>
        have hi : i ∈ Region.ready .any ops listed := by rw [hr]; exact List.mem_cons_self
        obtain ⟨h1, o, ho, _⟩ := mem_ready.1 hi
        have := toCome_set hn h1
        omega
    exact ⟨hr, done a w hG fun i hi => hP i (ready_some hw hn hr i hi)⟩
  | succ fuel ih =>
    intro listed a w hn hc hG hP hL
    refine ⟨fun hr => done a w hG fun i hi => hP i (ready_some hw hn hr i hi), fun i hi => ?_⟩
    obtain ⟨h1, o, ho, h2⟩ := mem_ready.1 hi
    have hil : listed.getD i false = false := by
      have hlt : i < listed.size := by rw [hn]; exact (Array.getElem?_eq_some_iff.1 ho).1
      simp [hlt] at h1 ⊢
      exact h1
    refine wpOp_mono (fun a' w' ⟨g, p, k⟩ => ?_) (step i o a w ho hG fun e he hb => hP _ (h2 e he hb))
    refine ih _ a' w' (by simpa using hn) ?_ g ?_ ?_
    · have := toCome_set hn h1
      omega
    · intro j hj
      by_cases e : i = j
      · subst e; exact p
      · rw [getD_set_ne false e] at hj
        have hjo : ∃ o', ops[j]? = some o' := by
          have hlt : j < listed.size := by
            rcases Nat.lt_or_ge j listed.size with h | h
            · exact h
            · simp [Array.getElem?_eq_none h] at hj
          exact ⟨_, Array.getElem?_eq_getElem (by omega)⟩
        obtain ⟨o', ho'⟩ := hjo
        refine k j o' (fun h => e h.symm) ho' (fun ed hed hb heq => ?_) (hP j hj)
        have := hL j o' hj ho' ed hed hb
        rw [heq, hil] at this
        cases this
    · intro j o' hj ho' ed hed hb
      by_cases e : i = j
      · subst e
        obtain rfl : o = o' := Option.some.inj (ho.symm.trans ho')
        exact getD_set_true (h2 ed hed hb)
      · rw [getD_set_ne false e] at hj
        exact getD_set_true (hL j o' hj ho' ed hed hb)
end

def slot (a : Act) (s : Tmp) : Value := a.tmps.getD s undef
theorem slot_put_eq {a : Act} {d : Tmp} (v : Value) (h : d < a.tmps.size) : slot (a.put (some d) v) d = v := by
  simp [slot, Act.put, h]
theorem slot_put_ne {a : Act} {d s : Tmp} (v : Value) (h : d ≠ s) : slot (a.put (some d) v) s = slot a s := by
  simp [slot, Act.put, Array.getElem?_setIfInBounds_ne h]

theorem nodup_place {α β : Type} (f : α → Option β) : ∀ (l : List α), (l.filterMap f).Nodup → ∀ (i j : Nat) (x y : α) (b : β), l[i]? = some x → l[j]? = some y → f x = some b → f y = some b → i = j
  | [], _, i, _, _, _, _, h, _, _, _ => by simp at h
  | z :: l, hn, i, j, x, y, b, hi, hj, hx, hy => by
    have mem : ∀ (k : Nat) (u : α), l[k]? = some u → f u = some b → b ∈ l.filterMap f := fun k u hk hu => List.mem_filterMap.2 ⟨u, List.mem_of_getElem? hk, hu⟩
    cases hz : f z with
    | none =>
      rw [List.filterMap_cons_none hz] at hn
      cases i with
      | zero => simp at hi; subst hi; rw [hz] at hx; cases hx
      | succ i =>
        cases j with
        | zero => simp at hj; subst hj; rw [hz] at hy; cases hy
        | succ j => rw [nodup_place f l hn i j x y b (by simpa using hi) (by simpa using hj) hx hy]
    | some c =>
      rw [List.filterMap_cons_some hz, List.nodup_cons] at hn
      cases i with
      | zero =>
        simp at hi
        subst hi
        cases j with
        | zero => rfl
        | succ j =>
          rw [hz] at hx
          obtain rfl := Option.some.inj hx
          exact absurd (mem j y (by simpa using hj) hy) hn.1
      | succ i =>
        cases j with
        | zero =>
          simp at hj
          subst hj
          rw [hz] at hy
          obtain rfl := Option.some.inj hy
          exact absurd (mem i x (by simpa using hi) hx) hn.1
        | succ j => rw [nodup_place f l hn.2 i j x y b (by simpa using hi) (by simpa using hj) hx hy]


theorem act_ext {a b : Act} (h1 : a.tmps.size = b.tmps.size) (h2 : a.defers = b.defers) (h3 : ∀ s, slot a s = slot b s) : a = b := by
  cases a with | mk at' ad => cases b with | mk bt bd =>
  simp only at h1 h2
  subst h2
  congr 1
  apply Array.ext h1
  intro i hi hj
  have := h3 i
  simpa [slot, hi, hj] using this
/-- A drawn statement of operations that each leave a value: what is told of each value is kept by all that lays new memory. -/
theorem wp_region_pr {P : Program} {ops : Array Oper} {Q : Exit → Act → World → Prop} {id : Nat} {a : Act} {w : World} (hm : P.follows .mixedOrders = true) (hw : waitsBack ops = true) (sl : Nat → Tmp) (pr : Nat → Value → World → Prop)
    (mono : ∀ i v w w', Below w.heap.size w w' → pr i v w → pr i v w')
    (dst : ∀ i o, ops[i]? = some o → o.dst = some (sl i) ∧ o.guard = none)
    (inj : ∀ i j, i < ops.size → j < ops.size → sl i = sl j → i = j) (lt : ∀ i, i < ops.size → sl i < a.tmps.size)
    (step : ∀ i o a' w', ops[i]? = some o → (∀ s, (∀ j, j < ops.size → sl j ≠ s) → slot a' s = slot a s) → Below w.heap.size w.drew w' → (∀ e ∈ o.after, Region.binds .any e = true → pr e.on (slot a' (sl e.on)) w') → ∀ K : Act → World → Prop, (∀ v w'', Below w'.heap.size w' w'' → pr i v w'' → K (a'.put o.dst v) w'') → o.wp P a' w' K Q)
    (done : ∀ a' w', a'.defers = a.defers → (∀ s, (∀ j, j < ops.size → sl j ≠ s) → slot a' s = slot a s) → Below w.heap.size w.drew w' → (∀ i, i < ops.size → pr i (slot a' (sl i)) w') → Q .normal a' w') : (Code.region id ops true).wp P Q a w := by
  refine wp_region_any hm ?_
  change wpAny _ _ _ _ _ _ _ w.drew
  refine wpAny_posts' (fun a' w' => a'.tmps.size = a.tmps.size ∧ a'.defers = a.defers ∧ (∀ s, (∀ j, j < ops.size → sl j ≠ s) → slot a' s = slot a s) ∧ Below w.heap.size w.drew w') (fun i a' w' => i < ops.size → pr i (slot a' (sl i)) w') hw ?_ ?_ ops.size (Array.replicate ops.size false) a w.drew (by simp) ?_ ⟨rfl, rfl, fun _ _ => rfl, Below.refl _ _⟩ (fun j hj => ?_) (fun j o hj => ?_)
  · intro i o a' w' ho ⟨g1, g2, g3, g4⟩ hdep
    have hi : i < ops.size := (Array.getElem?_eq_some_iff.1 ho).1
    obtain ⟨hd, hg⟩ := dst i o ho
    have hwant : Region.wanted o (yielded ops a'.tmps) = true := by simp [Region.wanted, hg]
    have hlt : sl i < a'.tmps.size := by rw [g1]; exact lt i hi
    unfold wpOp
    rw [ho]
    simp only [hwant, if_true]
    refine .inl (step i o a' w' ho g3 g4 (fun e he hb => hdep e he hb ?_) _ fun v w'' hB hp => ⟨⟨?_, ?_, ?_, ?_⟩, ?_, ?_⟩)
    · have h1 := hw
      unfold waitsBack at h1
      rw [List.all_eq_true] at h1
      have h2 := h1 i (List.mem_range.2 hi)
      rw [ho] at h2
      simp only [Option.map_some, Option.getD_some] at h2
      rw [Array.all_eq_true] at h2
      obtain ⟨k, hk, rfl⟩ := Array.mem_iff_getElem.1 he
      have := of_decide_eq_true (h2 k hk)
      omega
    · rw [hd]; simp [Act.put, g1]
    · rw [hd]; simp [Act.put, g2]
    · intro s hs
      rw [hd, slot_put_ne _ (hs i hi)]
      exact g3 s hs
    · exact g4.trans ⟨hB.os, hB.tape, hB.output, hB.size, fun k hk => hB.block k (Nat.lt_of_lt_of_le hk g4.size)⟩
    · intro _
      rw [hd, slot_put_eq _ hlt]
      exact hp
    · intro j o' hji _ _ hp' hj
      rw [hd, slot_put_ne _ (fun e => hji (inj j i hj hi e.symm))]
      exact mono j _ _ _ hB (hp' hj)
  · rintro a' w' ⟨g1, g2, g3, g4⟩ hp
    exact done a' w' g2 g3 g4 fun i hi => hp i hi hi
  · unfold toCome
    have := List.length_filter_le (fun j => !(Array.replicate ops.size false).getD j true) (List.range ops.size)
    simpa using this
  · by_cases h : j < ops.size <;> simp [h] at hj
  · by_cases h : j < ops.size <;> simp [h] at hj
end Go.Proofs.YtdjjelknjojnfaaGreat

namespace Go.Proofs.YtdjjelknjojnfaaGreat
open Go Go.RowKit

/-- An empty store. -/
def Mdl.empty (n room : Nat) : Mdl := ⟨n, Od.idn n, room, [], fun _ => (0, 0, 0)⟩
theorem Mdl.empty_ok {n room : Nat} (h1 : 1 ≤ n) (h8 : n ≤ 8) : (Mdl.empty n room).Ok := by
  refine ⟨h1, h8, fun i hi => ?_, fun i j hi hj e => ?_, by simp [Mdl.empty], ?_, Nat.zero_le _, ?_, ?_, ?_, ?_, ?_⟩
  · have hi' : i < n := hi
    show Od.idn n i < n
    unfold Od.idn
    rw [if_pos hi']
    exact hi'
  · have hi' : i < n := hi
    have hj' : j < n := hj
    change Od.idn n i = Od.idn n j at e
    unfold Od.idn at e
    rw [if_pos hi', if_pos hj'] at e
    exact e
  all_goals intro h hh; simp [Mdl.empty] at hh
theorem new_var (x y : Int) (w : World) (h : x < 1 ∨ 8 < x) :
    Calls Tryz.prog 10 #[.int .i64 x, .int .i64 y] w fun e w' => e = .returned (.tuple #[.pointer none, .int .i64 40]) ∧ w' = w := by
  by_cases h1 : x < 1
  · clear h
    go_enter Tryz.func10, Tryz.ntmps10
    go_wp2_with fail
    go_ret2
    exact ⟨rfl, rfl⟩
  · have h2 : 8 < x := by omega
    clear h
    go_enter Tryz.func10, Tryz.ntmps10
    go_wp2_with fail
    go_ret2
    exact ⟨rfl, rfl⟩
theorem new_full (x y : Int) (w : World) (h1 : 1 ≤ x) (h8 : x ≤ 8) (h : y < 1 ∨ 32768 < y) :
    Calls Tryz.prog 10 #[.int .i64 x, .int .i64 y] w fun e w' => e = .returned (.tuple #[.pointer none, .int .i64 60]) ∧ w' = w := by
  have a1 : ¬ x < 1 := by omega
  have a8 : ¬ 8 < x := by omega
  by_cases h1 : y < 1
  · clear h
    go_enter Tryz.func10, Tryz.ntmps10
    go_wp2_with fail
    go_ret2
    exact ⟨rfl, rfl⟩
  · have h2 : 32768 < y := by omega
    clear h
    go_enter Tryz.func10, Tryz.ntmps10
    go_wp2_with fail
    go_ret2
    exact ⟨rfl, rfl⟩
theorem ord17 {w : World} {P n : Nat} {v l : Nat → Nat} (h : Od.IsOrd w P n v l) : w.cell? ⟨P, 0, none⟩ = some (Od.ordCell n v l 0) ∧ w.cell? ⟨P, 1, none⟩ = some (Od.ordCell n v l 1) ∧ w.cell? ⟨P, 2, none⟩ = some (Od.ordCell n v l 2) ∧ w.cell? ⟨P, 3, none⟩ = some (Od.ordCell n v l 3) ∧ w.cell? ⟨P, 4, none⟩ = some (Od.ordCell n v l 4) ∧ w.cell? ⟨P, 5, none⟩ = some (Od.ordCell n v l 5) ∧ w.cell? ⟨P, 6, none⟩ = some (Od.ordCell n v l 6) ∧ w.cell? ⟨P, 7, none⟩ = some (Od.ordCell n v l 7) ∧ w.cell? ⟨P, 8, none⟩ = some (Od.ordCell n v l 8) ∧ w.cell? ⟨P, 9, none⟩ = some (Od.ordCell n v l 9) ∧ w.cell? ⟨P, 10, none⟩ = some (Od.ordCell n v l 10) ∧ w.cell? ⟨P, 11, none⟩ = some (Od.ordCell n v l 11) ∧ w.cell? ⟨P, 12, none⟩ = some (Od.ordCell n v l 12) ∧ w.cell? ⟨P, 13, none⟩ = some (Od.ordCell n v l 13) ∧ w.cell? ⟨P, 14, none⟩ = some (Od.ordCell n v l 14) ∧ w.cell? ⟨P, 15, none⟩ = some (Od.ordCell n v l 15) ∧ w.cell? ⟨P, 16, none⟩ = some (Od.ordCell n v l 16) := by
  refine ⟨?_, ?_, ?_, ?_, ?_, ?_, ?_, ?_, ?_, ?_, ?_, ?_, ?_, ?_, ?_, ?_, ?_⟩ <;> exact World.rowIs.cell h (by decide)
theorem heldN_nat {n : Nat} (h1 : 1 ≤ n) (h8 : n ≤ 8) : Od.heldN (n : Int) = n := by
  unfold Od.heldN
  rw [if_neg (by omega), if_neg (by omega)]
  omega
theorem held_nat {n : Nat} (h : n ≤ 262144) : held (n : Int) = n := by
  unfold held
  rw [if_neg (by omega), if_neg (by omega)]
  omega
/-- Two blocks of three cells. -/
def Two (T C P r m : Nat) (u : World) : Prop := u.heap[T]? = some (.cells #[.pointer (some ⟨P, 0, none⟩), .int .i64 0, .int .i64 (2 * (r : Int))] 81 (0, 0)) ∧ u.heap[C]? = some (.cells #[.pointer (some ⟨P, 0, none⟩), .int .i64 (2 * (r : Int)), .int .i64 (m : Int)] 84 (0, 0))
theorem Two.ltT {T C P r m : Nat} {u : World} (h : Two T C P r m u) : T < u.heap.size := (Array.getElem?_eq_some_iff.1 h.1).1
theorem Two.ltC {T C P r m : Nat} {u : World} (h : Two T C P r m u) : C < u.heap.size := (Array.getElem?_eq_some_iff.1 h.2).1
theorem Two.below {T C P r m : Nat} {u u' : World} (h : Two T C P r m u) (k : Below u.heap.size u u') : Two T C P r m u' := ⟨(k.block _ h.ltT).trans h.1, (k.block _ h.ltC).trans h.2⟩
theorem Two.new {T C P r m : Nat} {u : World} (h : Two T C P r m u) (o : Obj) : Two T C P r m (u.alloc o) := ⟨(Below.heap_alloc _ _ _ h.ltT).trans h.1, (Below.heap_alloc _ _ _ h.ltC).trans h.2⟩
theorem Two.drew {T C P r m : Nat} {u : World} (h : Two T C P r m u) : Two T C P r m u.drew := h
theorem Two.six {T C P r m : Nat} {u : World} (h : Two T C P r m u) : Two T C P r m u ∧ u.cell? ⟨T, 0, none⟩ = some (.pointer (some ⟨P, 0, none⟩)) ∧ u.cell? ⟨T, 1, none⟩ = some (.int .i64 0) ∧ u.cell? ⟨T, 2, none⟩ = some (.int .i64 (2 * (r : Int))) ∧ u.cell? ⟨C, 0, none⟩ = some (.pointer (some ⟨P, 0, none⟩)) ∧ u.cell? ⟨C, 1, none⟩ = some (.int .i64 (2 * (r : Int))) ∧ u.cell? ⟨C, 2, none⟩ = some (.int .i64 (m : Int)) := by
  refine ⟨h, ?_, ?_, ?_, ?_, ?_, ?_⟩ <;> simp [World.cell?, h.1, h.2]
/-- The slots of the statement that lays a store. -/
def slN (i : Nat) : Tmp := [49, 50, 51, 52, 53, 54, 55, 56, 57, 58, 59, 60, 61, 62, 4, 5].getD i 0
def ordL (n : Nat) : Array Value := #[Od.ordCell n (Od.idn n) (Od.idn n) 0, Od.ordCell n (Od.idn n) (Od.idn n) 1, Od.ordCell n (Od.idn n) (Od.idn n) 2, Od.ordCell n (Od.idn n) (Od.idn n) 3, Od.ordCell n (Od.idn n) (Od.idn n) 4, Od.ordCell n (Od.idn n) (Od.idn n) 5, Od.ordCell n (Od.idn n) (Od.idn n) 6, Od.ordCell n (Od.idn n) (Od.idn n) 7, Od.ordCell n (Od.idn n) (Od.idn n) 8, Od.ordCell n (Od.idn n) (Od.idn n) 9, Od.ordCell n (Od.idn n) (Od.idn n) 10, Od.ordCell n (Od.idn n) (Od.idn n) 11, Od.ordCell n (Od.idn n) (Od.idn n) 12, Od.ordCell n (Od.idn n) (Od.idn n) 13, Od.ordCell n (Od.idn n) (Od.idn n) 14, Od.ordCell n (Od.idn n) (Od.idn n) 15, Od.ordCell n (Od.idn n) (Od.idn n) 16]
def litN (n r m P b : Nat) : Array Value := #[Od.ordCell n (Od.idn n) (Od.idn n) 0, Od.ordCell n (Od.idn n) (Od.idn n) 1, Od.ordCell n (Od.idn n) (Od.idn n) 2, Od.ordCell n (Od.idn n) (Od.idn n) 3, Od.ordCell n (Od.idn n) (Od.idn n) 4, Od.ordCell n (Od.idn n) (Od.idn n) 5, Od.ordCell n (Od.idn n) (Od.idn n) 6, Od.ordCell n (Od.idn n) (Od.idn n) 7, Od.ordCell n (Od.idn n) (Od.idn n) 8, Od.ordCell n (Od.idn n) (Od.idn n) 9, Od.ordCell n (Od.idn n) (Od.idn n) 10, Od.ordCell n (Od.idn n) (Od.idn n) 11, Od.ordCell n (Od.idn n) (Od.idn n) 12, Od.ordCell n (Od.idn n) (Od.idn n) 13, Od.ordCell n (Od.idn n) (Od.idn n) 14, Od.ordCell n (Od.idn n) (Od.idn n) 15, Od.ordCell n (Od.idn n) (Od.idn n) 16, .int .i64 (r : Int), .slice none 0 0, .pointer (some ⟨P, 0, none⟩), .int .i64 0, .int .i64 (2 * (r : Int)), .map (some b), .pointer (some ⟨P, 0, none⟩), .int .i64 (2 * (r : Int)), .int .i64 (m : Int), .bool true]
/-- What its operations leave. -/
def prN (n r m P T C H : Nat) (i : Nat) (v : Value) (u : World) : Prop :=
  match i with
  | 0 => v = .int .i64 (n : Int)
  | 1 => ∃ G, v = .pointer (some ⟨G, 0, none⟩) ∧ Od.IsOrd u G n (Od.idn n) (Od.idn n)
  | 2 => ∃ G, v = .pointer (some ⟨G, 0, none⟩) ∧ Od.IsOrd u G n (Od.idn n) (Od.idn n)
  | 3 => v = .agg (ordL n)
  | 4 => v = .int .i64 (r : Int)
  | 5 => v = .pointer (some ⟨T, 0, none⟩)
  | 6 => v = .pointer (some ⟨T, 0, none⟩)
  | 7 => v = .agg #[.pointer (some ⟨P, 0, none⟩), .int .i64 0, .int .i64 (2 * (r : Int))]
  | 8 => ∃ b, v = .map (some b) ∧ IsMap u b (fun _ => none) ∧ H ≤ b
  | 9 => v = .pointer (some ⟨C, 0, none⟩)
  | 10 => v = .pointer (some ⟨C, 0, none⟩)
  | 11 => v = .agg #[.pointer (some ⟨P, 0, none⟩), .int .i64 (2 * (r : Int)), .int .i64 (m : Int)]
  | 12 => ∃ b, v = .agg (litN n r m P b) ∧ IsMap u b (fun _ => none) ∧ H ≤ b
  | 13 => ∃ S b, v = .pointer (some ⟨S, 0, none⟩) ∧ u.heap[S]? = some (.cells (litN n r m P b) 87 (0, 0)) ∧ IsMap u b (fun _ => none) ∧ H ≤ b ∧ H ≤ S
  | 14 => ∃ S b, v = .pointer (some ⟨S, 0, none⟩) ∧ u.heap[S]? = some (.cells (litN n r m P b) 87 (0, 0)) ∧ IsMap u b (fun _ => none) ∧ H ≤ b ∧ H ≤ S
  | _ => v = .int .i64 0
theorem slN_inj : ∀ i j, i < 16 → j < 16 → slN i = slN j → i = j := by
  have h : ∀ i : Fin 16, ∀ j : Fin 16, slN i.1 = slN j.1 → i = j := by decide
  exact fun i j hi hj e => congrArg Fin.val (h ⟨i, hi⟩ ⟨j, hj⟩ e)
theorem slN_lt : ∀ i, i < 16 → slN i < 63 := by
  have h : ∀ i : Fin 16, slN i.1 < 63 := by decide
  exact fun i hi => h ⟨i, hi⟩
theorem prN_mono {n r m P T C H : Nat} : ∀ i v w w', Below w.heap.size w w' → prN n r m P T C H i v w → prN n r m P T C H i v w' := by
  intro i v w w' b h
  have kp : ∀ {q : Nat} {f : Int → Option Int}, IsMap w q f → IsMap w' q f := fun m => m.same (b.block _ m.lt)
  have hb : ∀ {q : Nat} {o : Obj}, w.heap[q]? = some o → w'.heap[q]? = some o := fun e => (b.block _ (Array.getElem?_eq_some_iff.1 e).1).trans e
  unfold prN at h ⊢
  split at h <;> try exact h
  · obtain ⟨G, e, o⟩ := h; exact ⟨G, e, o.below b⟩
  · obtain ⟨G, e, o⟩ := h; exact ⟨G, e, o.below b⟩
  · obtain ⟨q, e, m, x⟩ := h; exact ⟨q, e, kp m, x⟩
  · obtain ⟨q, e, m, x⟩ := h; exact ⟨q, e, kp m, x⟩
  · obtain ⟨S, q, e, o, m, x⟩ := h; exact ⟨S, q, e, hb o, kp m, x⟩
  · obtain ⟨S, q, e, o, m, x⟩ := h; exact ⟨S, q, e, hb o, kp m, x⟩
theorem ordL_cells {w : World} {P n : Nat} (h : Od.IsOrd w P n (Od.idn n) (Od.idn n)) : ∀ j u, (ordL n).toList[j]? = some u → w.cell? ⟨P, 0 + j, none⟩ = some u := fun j u hu => by
  have hj : j < 17 := (List.getElem?_eq_some_iff.1 hu).1
  rw [Nat.zero_add, World.rowIs.cell h hj, ← hu]
  have cj : j = 0 ∨ j = 1 ∨ j = 2 ∨ j = 3 ∨ j = 4 ∨ j = 5 ∨ j = 6 ∨ j = 7 ∨ j = 8 ∨ j = 9 ∨ j = 10 ∨ j = 11 ∨ j = 12 ∨ j = 13 ∨ j = 14 ∨ j = 15 ∨ j = 16 := by omega
  rcases cj with rfl | rfl | rfl | rfl | rfl | rfl | rfl | rfl | rfl | rfl | rfl | rfl | rfl | rfl | rfl | rfl | rfl <;> rfl
theorem build_lit (n r m P b : Nat) (w : World) : (Instr.build 87 #[(0, .agg (ordL n)), (1, .int .i64 (r : Int)), (3, .agg #[.pointer (some ⟨P, 0, none⟩), .int .i64 0, .int .i64 (2 * (r : Int))]), (4, .map (some b)), (5, .agg #[.pointer (some ⟨P, 0, none⟩), .int .i64 (2 * (r : Int)), .int .i64 (m : Int)]), (6, .bool true)]).run Tryz.prog w = .ok (.agg (litN n r m P b)) w := by
  kernel_rfl
theorem box_lit (n r m P b : Nat) (w : World) : (Instr.box 87 (.agg (litN n r m P b))).run Tryz.prog w = .ok (.pointer (some ⟨w.heap.size, 0, none⟩)) (w.alloc (.cells (litN n r m P b) 87)) := by
  kernel_rfl
theorem wp_build {n r m P b : Nat} {a : Act} {w : World} {K : Act → World → Prop} {Q : Exit → Act → World → Prop} {ty : TypeId} {pos : String} {af : Array Edge} (h : (Instr.build 87 #[(0, .agg (ordL n)), (1, .int .i64 (r : Int)), (3, .agg #[.pointer (some ⟨P, 0, none⟩), .int .i64 0, .int .i64 (2 * (r : Int))]), (4, .map (some b)), (5, .agg #[.pointer (some ⟨P, 0, none⟩), .int .i64 (2 * (r : Int)), .int .i64 (m : Int)]), (6, .bool true)]).run Tryz.prog w = .ok (.agg (litN n r m P b)) w)
    (q0 : a.tmps.getD 52 undef = .agg (ordL n)) (q1 : a.tmps.getD 53 undef = .int .i64 (r : Int)) (q2 : a.tmps.getD 56 undef = .agg #[.pointer (some ⟨P, 0, none⟩), .int .i64 0, .int .i64 (2 * (r : Int))]) (q3 : a.tmps.getD 57 undef = .map (some b)) (q4 : a.tmps.getD 60 undef = .agg #[.pointer (some ⟨P, 0, none⟩), .int .i64 (2 * (r : Int)), .int .i64 (m : Int)])
    (hK : K (a.put (some 61) (.agg (litN n r m P b))) w) : Oper.wp Tryz.prog { dst := some 61, op := .build 87 #[(0, .tmp 52), (1, .tmp 53), (3, .tmp 56), (4, .tmp 57), (5, .tmp 60), (6, .const (.bool true))], type := ty, pos := pos, after := af, guard := none } a w K Q := by
  unfold Oper.wp execOp
  simp only [List.map_toArray, List.map_cons, List.map_nil, Act.eval, q0, q1, q2, q3, q4, Sem.run_bind, h, Result.andThen_ok, Sem.run_pure]
  exact hK
theorem wp_box {n r m P b : Nat} {a : Act} {w : World} {K : Act → World → Prop} {Q : Exit → Act → World → Prop} {ty : TypeId} {pos : String} {af : Array Edge}
    (q0 : a.tmps.getD 61 undef = .agg (litN n r m P b)) (hK : K (a.put (some 62) (.pointer (some ⟨w.heap.size, 0, none⟩))) (w.alloc (.cells (litN n r m P b) 87))) : Oper.wp Tryz.prog { dst := some 62, op := .box 87 (.tmp 61), type := ty, pos := pos, after := af, guard := none } a w K Q := by
  unfold Oper.wp execOp
  simp only [Act.eval, q0, Sem.run_bind, box_lit, Result.andThen_ok, Sem.run_pure]
  exact hK
set_option maxRecDepth 100000 in
set_option maxHeartbeats 2000000 in
theorem new_ok (n r : Nat) (w : World) (h1 : 1 ≤ n) (h8 : n ≤ 8) (r1 : 1 ≤ r) (r2 : r ≤ 32768) :
    Calls Tryz.prog 10 #[.int .i64 (n : Int), .int .i64 (r : Int)] w fun e w' => ∃ S I, e = .returned (.tuple #[.pointer (some ⟨S, 0, none⟩), .int .i64 0]) ∧ StI w' S (Mdl.empty n r) I ∧ Below w.heap.size w w' ∧ ∀ k, Fp S I k → w.heap.size ≤ k := by
  have a1 : ¬ (n : Int) < 1 := by omega
  have a8 : ¬ (8 : Int) < (n : Int) := by omega
  have b1 : ¬ (r : Int) < 1 := by omega
  have b2 : ¬ (32768 : Int) < (r : Int) := by omega
  obtain ⟨m, hm⟩ : ∃ m : Nat, (if (1024 : Int) < (r : Int) then 1024 else (r : Int)) = (m : Int) ∧ 1 ≤ m ∧ m ≤ 1024 := by
    by_cases c : (1024 : Int) < (r : Int)
    · exact ⟨1024, by rw [if_pos c]; rfl, by omega, by omega⟩
    · exact ⟨r, by rw [if_neg c], by omega, by omega⟩
  obtain ⟨hm, m1, m2⟩ := hm
  have K1 := Ch.cells_any m w (by omega)
  have K2 := new_any (2 * (r : Int) + 4 * (m : Int)) w
  have hheld : held (2 * (r : Int) + 4 * (m : Int)) = 2 * r + 4 * m := by
    have := held_nat (n := 2 * r + 4 * m) (by omega)
    rw [← this]
    congr 1
  rw [hheld] at K2
  have hcast : ((2 * r : Nat) : Int) = 2 * (r : Int) := by omega
  have hcA : Aside (((2 * r : Nat) : Int) = 2 * (r : Int)) := hcast
  clear hheld hcast
  generalize hH : w.heap.size = A at K2
  have hH' : Aside (w.heap.size = A) := hH
  clear hH
  go_enter Tryz.func10, Tryz.ntmps10
  go_wp2_with (first
    | (go_at_call 37; refine K1.mono ?_; clear K1; rintro e w ⟨rfl, rfl⟩)
    | (go_at_call 36; refine K2.mono ?_; clear K2; rintro e w1 ⟨rfl, m1, b1, s1⟩; have s1A : Aside (w1.heap.size = A + 2) := s1; clear s1; have K3 := Tb.tab_new m1 0 (2 * r) (by omega) (by omega) (by omega); rw [hcA.out, show ((0 : Nat) : Int) = 0 from rfl] at K3; generalize hT : w1.heap.size = T at K3; have hTA : Aside (w1.heap.size = T) := hT; clear hT; have m2 := m1.new (.cells #[.pointer (some ⟨A + 1, 0, none⟩), .int .i64 0, .int .i64 (2 * (r : Int))] 81))
    | (go_at_call 38; refine K3.mono ?_; clear K3; rintro e w2 ⟨rfl, hw2⟩; have b2 : Aside (w2 = _) := hw2; rw [← hw2] at m2; clear hw2; have K4 := Ch.cache_new m2 (2 * r) m (by omega) (by omega) (by omega) (by omega); rw [hcA.out] at K4; generalize hC : w2.heap.size = C at K4; have hCA : Aside (w2.heap.size = C) := hC; clear hC)
    | (go_at_call 39; refine K4.mono ?_; clear K4; rintro e w3 ⟨rfl, hw3⟩; have b3 : Aside (w3 = _) := hw3; clear hw3))
  have two : Two T C (A + 1) r m w3 := by
    rw [b3.out]
    refine ⟨?_, ?_⟩
    · rw [Below.heap_alloc _ _ _ (by rw [b2.out]; simp; rw [hTA.out]; omega), b2.out]
      rw [← hTA.out]
      exact Go.Deep.blk_alloc_new _ _
    · rw [← hCA.out]
      exact Go.Deep.blk_alloc_new _ _
  have KO : Aside (∀ u, Calls Tryz.prog 40 #[.int .i64 (n : Int)] u fun e w' => ∃ G, e = .returned (.pointer (some ⟨G, 0, none⟩)) ∧ Od.IsOrd w' G n (Od.idn n) (Od.idn n) ∧ Below u.heap.size u w' ∧ Aside (u.heap.size ≤ G)) := fun u => by
    have := Od.new_any (n : Int) u
    rw [heldN_nat h1 h8] at this
    refine this.mono ?_
    rintro e w' ⟨rfl, o5, b5⟩
    exact ⟨_, rfl, o5, b5, Nat.le_refl _⟩
  have H3 : Aside (A ≤ w3.heap.size) := by
    simp only [Aside]
    rw [b3.out, b2.out]
    simp
    have := s1A.out
    omega
  have hTw : ∀ u, Below w3.heap.size w3.drew u → Two T C (A + 1) r m u := fun u hu => two.below ⟨hu.os, hu.tape, hu.output, hu.size, hu.block⟩
  refine wp_region_pr (by kernel_rfl) (by kernel_rfl) slN (prN n r m (A + 1) T C w3.heap.size) ?_ ?_ ?_ ?_ ?_ ?_
  · exact prN_mono
  · intro i o ho
    have hi : i < 16 := (Array.getElem?_eq_some_iff.1 ho).1
    have ci : i = 0 ∨ i = 1 ∨ i = 2 ∨ i = 3 ∨ i = 4 ∨ i = 5 ∨ i = 6 ∨ i = 7 ∨ i = 8 ∨ i = 9 ∨ i = 10 ∨ i = 11 ∨ i = 12 ∨ i = 13 ∨ i = 14 ∨ i = 15 := by omega
    rcases ci with rfl | rfl | rfl | rfl | rfl | rfl | rfl | rfl | rfl | rfl | rfl | rfl | rfl | rfl | rfl | rfl <;> (simp at ho; subst ho; exact ⟨rfl, rfl⟩)
  · exact fun i j hi hj e => slN_inj i j hi hj e
  · exact fun i hi => Nat.lt_of_lt_of_le (slN_lt i hi) (Nat.le_refl 63)
  · intro i o a' w' ho hs hBl hdep K hK
    have hi : i < 16 := (Array.getElem?_eq_some_iff.1 ho).1
    have ci : i = 0 ∨ i = 1 ∨ i = 2 ∨ i = 3 ∨ i = 4 ∨ i = 5 ∨ i = 6 ∨ i = 7 ∨ i = 8 ∨ i = 9 ∨ i = 10 ∨ i = 11 ∨ i = 12 ∨ i = 13 ∨ i = 14 ∨ i = 15 := by omega
    rcases ci with rfl | rfl | rfl | rfl | rfl | rfl | rfl | rfl | rfl | rfl | rfl | rfl | rfl | rfl | rfl | rfl
    · simp at ho
      subst ho
      have q0 : slot a' 0 = .int .i64 (n : Int) := hs 0 (by decide)
      unfold slot at q0
      go_simp
      exact hK _ _ (Below.refl _ _) rfl
    · simp at ho
      subst ho
      have q0 : slot a' 49 = .int .i64 (n : Int) := hdep { on := 0, ground := .data } (by simp) (by decide)
      unfold slot at q0
      go_simp
      refine (KO.out w').mono ?_
      rintro e w5 ⟨G, rfl, o5, b5, g5⟩
      exact hK _ _ b5 ⟨G, rfl, o5⟩
    · simp at ho
      subst ho
      obtain ⟨G, q0, o5⟩ := hdep { on := 1, ground := .data } (by simp) (by decide)
      unfold slot at q0
      change a'.tmps.getD 50 undef = _ at q0
      go_simp
      exact hK _ _ (Below.refl _ _) ⟨G, rfl, o5⟩
    · simp at ho
      subst ho
      obtain ⟨G, q0, o5⟩ := hdep { on := 2, ground := .data } (by simp) (by decide)
      unfold slot at q0
      change a'.tmps.getD 51 undef = _ at q0
      exact Od.wp_load_cells 77 (.tmp 51) rfl G 0 q0 (ordL n) _ (ordL_cells o5) Tryz.underlying77 rfl (by kernel_rfl) (hK _ _ (Below.refl _ _) rfl)
    · simp at ho
      subst ho
      have q0 : slot a' 1 = .int .i64 (r : Int) := hs 1 (by decide)
      unfold slot at q0
      go_simp
      exact hK _ _ (Below.refl _ _) rfl
    · simp at ho
      subst ho
      have q0 : slot a' 8 = .pointer (some ⟨T, 0, none⟩) := hs 8 (by decide)
      unfold slot at q0
      go_simp
      exact hK _ _ (Below.refl _ _) rfl
    · simp at ho
      subst ho
      have q0 : slot a' 54 = .pointer (some ⟨T, 0, none⟩) := hdep { on := 5, ground := .data } (by simp) (by decide)
      unfold slot at q0
      go_simp
      exact hK _ _ (Below.refl _ _) rfl
    · simp at ho
      subst ho
      have q0 : slot a' 55 = .pointer (some ⟨T, 0, none⟩) := hdep { on := 6, ground := .data } (by simp) (by decide)
      unfold slot at q0
      obtain ⟨_, z0, z1, z2, _⟩ := (hTw w' hBl).six
      go_simp
      exact hK _ _ (Below.refl _ _) rfl
    · simp at ho
      subst ho
      have hmm := @run_makeMap Tryz.prog
      go_simp
      exact hK _ _ ((Below.refl _ _).alloc (Nat.le_refl _) _) ⟨_, rfl, IsMap.fresh w', hBl.size⟩
    · simp at ho
      subst ho
      have q0 : slot a' 10 = .pointer (some ⟨C, 0, none⟩) := hs 10 (by decide)
      unfold slot at q0
      go_simp
      exact hK _ _ (Below.refl _ _) rfl
    · simp at ho
      subst ho
      have q0 : slot a' 58 = .pointer (some ⟨C, 0, none⟩) := hdep { on := 9, ground := .data } (by simp) (by decide)
      unfold slot at q0
      go_simp
      exact hK _ _ (Below.refl _ _) rfl
    · simp at ho
      subst ho
      have q0 : slot a' 59 = .pointer (some ⟨C, 0, none⟩) := hdep { on := 10, ground := .data } (by simp) (by decide)
      unfold slot at q0
      obtain ⟨_, _, _, _, z0, z1, z2⟩ := (hTw w' hBl).six
      go_simp
      exact hK _ _ (Below.refl _ _) rfl
    · simp at ho
      subst ho
      have q0 : slot a' 52 = .agg (ordL n) := hdep { on := 3, ground := .data } (by simp) (by decide)
      unfold slot at q0
      have q1 : slot a' 53 = .int .i64 (r : Int) := hdep { on := 4, ground := .data } (by simp) (by decide)
      unfold slot at q1
      have q2 : slot a' 56 = .agg #[.pointer (some ⟨A + 1, 0, none⟩), .int .i64 0, .int .i64 (2 * (r : Int))] := hdep { on := 7, ground := .data } (by simp) (by decide)
      unfold slot at q2
      obtain ⟨b, q3, mb, hb⟩ := hdep { on := 8, ground := .data } (by simp) (by decide)
      unfold slot at q3
      change a'.tmps.getD 57 undef = _ at q3
      have q4 : slot a' 60 = .agg #[.pointer (some ⟨A + 1, 0, none⟩), .int .i64 (2 * (r : Int)), .int .i64 (m : Int)] := hdep { on := 11, ground := .data } (by simp) (by decide)
      unfold slot at q4
      have hbd := build_lit n r m (A + 1) b w'
      exact wp_build hbd q0 q1 q2 q3 q4 (hK _ _ (Below.refl _ _) ⟨b, rfl, mb, hb⟩)
    · simp at ho
      subst ho
      obtain ⟨b, q0, mb, hb⟩ := hdep { on := 12, ground := .data } (by simp) (by decide)
      unfold slot at q0
      change a'.tmps.getD 61 undef = _ at q0
      exact wp_box q0 (hK _ _ ((Below.refl _ _).alloc (Nat.le_refl _) _) ⟨_, b, rfl, Go.Deep.blk_alloc_new _ _, mb.same (Below.heap_alloc _ _ _ mb.lt), hb, hBl.size⟩)
    · simp at ho
      subst ho
      obtain ⟨S, b, q0, r0⟩ := hdep { on := 13, ground := .data } (by simp) (by decide)
      unfold slot at q0
      change a'.tmps.getD 62 undef = _ at q0
      go_simp
      exact hK _ _ (Below.refl _ _) ⟨S, b, rfl, r0⟩
    · simp at ho
      subst ho
      go_simp
      exact hK _ _ (Below.refl _ _) rfl
  · intro a' w' hdf hs hBl hp
    obtain ⟨S, b, q4, hS, mb, hb, hSB⟩ := hp 14 (by decide)
    have q5 : slot a' 5 = .int .i64 0 := hp 15 (by decide)
    change a'.tmps.getD 4 undef = _ at q4
    change a'.tmps.getD 5 undef = _ at q5
    refine ‹∀ (a : Act) (w : World), Code.wp Tryz.prog Code.ret _ a w → _› a' w' ?_
    have hB3 : Below w3.heap.size w3 w' := ⟨hBl.os, hBl.tape, hBl.output, hBl.size, hBl.block⟩
    have m3 : IsMem w' (A + 1) A (2 * r + 4 * m) (fun _ => 0) 0 0 := by
      have e3 := m2.new (.cells #[.pointer (some ⟨A + 1, 0, none⟩), .int .i64 (2 * (r : Int)), .int .i64 (m : Int)] 84)
      rw [← b3.out] at e3
      exact e3.of_blocks (hB3.block _ e3.ltP) (hB3.block _ e3.ltR)
    have hA := hH'.out
    have hA3 := H3.out
    have hBw : Below w.heap.size w w' := by
      have h1 := s1A.out
      have e2 : Below A w1 w2 := by rw [b2.out]; exact (Below.refl _ _).alloc (by omega) _
      have e3 : Below A w2 w3 := by rw [b3.out]; exact (Below.refl _ _).alloc (Nat.le_trans (by omega) e2.size) _
      rw [hA]
      exact ((b1.trans e2).trans e3).trans ⟨hB3.os, hB3.tape, hB3.output, hB3.size, fun k hk => hB3.block k (by omega)⟩
    go_wp2_with fail
    refine bodyPost_ret (v := .tuple #[.pointer (some ⟨S, 0, none⟩), .int .i64 0]) (by simp only [Array.getD_eq_getD_getElem?] at q4 q5; simp [results, Tryz.results10, q4, q5, go_sem]) hdf ⟨S, rfl, ⟨A + 1, A, b, none, 0, m, fun _ => 0, fun _ => 0, fun _ => none, Od.idn n, true⟩, ⟨⟨_, hS, rfl, fun i hi => ?_⟩, ⟨0, 0, m3⟩, OwnR.nil _ _ _ _, mb, ?_⟩, hA ▸ hBw, fun k hk => ?_⟩
    · have c27 : i = 0 ∨ i = 1 ∨ i = 2 ∨ i = 3 ∨ i = 4 ∨ i = 5 ∨ i = 6 ∨ i = 7 ∨ i = 8 ∨ i = 9 ∨ i = 10 ∨ i = 11 ∨ i = 12 ∨ i = 13 ∨ i = 14 ∨ i = 15 ∨ i = 16 ∨ i = 17 ∨ i = 18 ∨ i = 19 ∨ i = 20 ∨ i = 21 ∨ i = 22 ∨ i = 23 ∨ i = 24 ∨ i = 25 ∨ i = 26 := by omega
      have e2 : (2 * (r : Int)) = ((2 * r : Nat) : Int) := hcA.out.symm
      rcases c27 with rfl | rfl | rfl | rfl | rfl | rfl | rfl | rfl | rfl | rfl | rfl | rfl | rfl | rfl | rfl | rfl | rfl | rfl | rfl | rfl | rfl | rfl | rfl | rfl | rfl | rfl | rfl <;> first | rfl | (show some (Value.int .i64 (2 * (r : Int))) = some (Value.int .i64 ((2 * r : Nat) : Int)); rw [e2])
    · refine ⟨Mdl.empty_ok h1 h8, fun i (hi : i < n) => by show Od.idn n (Od.idn n i) = i; simp [Od.idn, hi], r1, r2, ‹1 ≤ m›, ‹m ≤ 1024›, rfl, fun i hi => absurd hi (Nat.not_lt_zero _), fun _ => ⟨Int.le_refl 0, show (0 : Int) ≤ _ by omega⟩, Tb.Good.empty _, fun s _ h => absurd rfl h, fun i hi => absurd hi (Nat.not_lt_zero _), Tb.cnt_zero _, fun key _ _ hk => absurd (show Ch.hi 0 = 0 by decide) hk.1⟩
    · rcases hk with e | e | e | e | ⟨a, ha, _⟩
      · rw [e]; omega
      · show A ≤ k; rw [e]; show A ≤ A + 1; omega
      · show A ≤ k; rw [e]; exact Nat.le_refl A
      · show A ≤ k; rw [e]; show A ≤ b; omega
      · cases ha
end Go.Proofs.YtdjjelknjojnfaaGreat

namespace Go.Proofs.YtdjjelknjojnfaaGreat
open Go Go.RowKit

/-- A store at S, of the blocks F, that is M. -/
def St (w : World) (S : Nat) (F : Nat → Prop) (M : Mdl) : Prop := ∃ I, StI w S M I ∧ F = Fp S I

section
variable {w w' : World} {S : Nat} {F : Nat → Prop} {M : Mdl}
theorem St.ok (h : St w S F M) : M.Ok := by obtain ⟨I, h, _⟩ := h; exact h.pu.ok
theorem St.room (h : St w S F M) : 1 ≤ M.room ∧ M.room ≤ 32768 := by obtain ⟨I, h, _⟩ := h; exact ⟨h.pu.room1, h.pu.room2⟩
theorem St.lt (h : St w S F M) : ∀ k, F k → k < w.heap.size := by obtain ⟨I, h, rfl⟩ := h; exact h.lt
theorem St.kinds (h : St w S F M) : ∀ k, F k → ∃ o, w.heap[k]? = some o ∧ stKind o := by obtain ⟨I, h, rfl⟩ := h; exact h.kinds
theorem St.kept (h : St w S F M) (k : ∀ b, F b → w'.heap[b]? = w.heap[b]?) : St w' S F M := by obtain ⟨I, h, rfl⟩ := h; exact ⟨I, h.kept k, rfl⟩
theorem St.below (h : St w S F M) (k : Below w.heap.size w w') : St w' S F M := h.kept fun b hb => k.block b (h.lt b hb)
theorem St.new (h : St w S F M) (o : Obj) : St (w.alloc o) S F M := h.kept fun b hb => Below.heap_alloc _ _ _ (h.lt b hb)
theorem St.drew (h : St w S F M) : St w.drew S F M := h.kept fun _ _ => rfl
theorem St.drewN (h : St w S F M) (q : Nat) : St (w.drewN q) S F M := h.kept fun _ _ => rfl
/-- A row of another kind lies apart from a store. -/
theorem St.row (h : St w S F M) {k : Nat} {cs : Array Value} {t : TypeId} {fr : Nat × Nat} (hk : w.heap[k]? = some (.cells cs t fr)) (ht : t ≠ 87 ∧ t ≠ 126 ∧ t ≠ 166 ∧ t ≠ 40) : ¬ F k := fun e => by
  obtain ⟨o, ho, hs⟩ := h.kinds k e
  rw [hk] at ho
  obtain rfl := Option.some.inj ho
  rcases hs with ⟨cs', t', e', q⟩ | ⟨es, ck, e'⟩
  · simp at e'
    obtain ⟨_, rfl, _⟩ := e'
    rcases q with q | q | q | q
    · exact ht.1 q
    · exact ht.2.1 q
    · exact ht.2.2.1 q
    · exact ht.2.2.2 q
  · cases e'
theorem St.own (h : St w S F M) {e : TypeId} {B n cap : Nat} {ad : Option Addr} {V : Nat → Value} (o : OwnR e w B ad n cap V) (ht : e ≠ 87 ∧ e ≠ 126 ∧ e ≠ 166 ∧ e ≠ 40) : ∀ k, At ad k → ¬ F k := fun k hk => by
  obtain ⟨cur, hc⟩ := o.kind k hk
  exact h.row hc ht
theorem Wf.own {F' : Nat → Prop} (g : Wf F F' w w') (h : St w S F M) {e : TypeId} {B n cap : Nat} {ad : Option Addr} {V : Nat → Value} (o : OwnR e w B ad n cap V) (ht : e ≠ 87 ∧ e ≠ 126 ∧ e ≠ 166 ∧ e ≠ 40) : OwnR e w' B ad n cap V :=
  o.kept fun b hb => g.block b (o.block b hb).2 (h.own o ht b hb)
theorem Wf.row {F' : Nat → Prop} (g : Wf F F' w w') (h : St w S F M) {e : TypeId} {b n : Nat} {V : Nat → Value} (o : w.rowIs b e n V) (ht : e ≠ 87 ∧ e ≠ 126 ∧ e ≠ 166 ∧ e ≠ 40) : w'.rowIs b e n V := by
  obtain ⟨cs, hb, _⟩ := id o
  exact o.of_block (g.block b o.lt (h.row hb ht))

theorem s_vars (h : St w S F M) :
    Calls Tryz.prog 42 #[.pointer (some ⟨S, 0, none⟩)] w fun e w' => e = .returned (.int .i64 (M.n : Int)) ∧ w' = w := by obtain ⟨I, h, rfl⟩ := h; exact vars_any h
theorem s_room (h : St w S F M) :
    Calls Tryz.prog 52 #[.pointer (some ⟨S, 0, none⟩)] w fun e w' => e = .returned (.int .i64 (M.room : Int)) ∧ w' = w := by obtain ⟨I, h, rfl⟩ := h; exact room_any h
theorem s_len (h : St w S F M) :
    Calls Tryz.prog 51 #[.pointer (some ⟨S, 0, none⟩)] w fun e w' => e = .returned (.int .i64 (M.hs.length : Int)) ∧ w' = w := by obtain ⟨I, h, rfl⟩ := h; exact slen_any h
theorem s_is (h : St w S F M) (x : Nat) (hx : x < 4294967296) :
    Calls Tryz.prog 31 #[.pointer (some ⟨S, 0, none⟩), .int .u32 (x : Int)] w fun e w' => e = .returned (.bool (M.nodeB x)) ∧ w' = w := by obtain ⟨I, h, rfl⟩ := h; exact is_any h x hx
theorem s_level (h : St w S F M) (x : Nat) (hx : x < 4294967296) :
    Calls Tryz.prog 53 #[.pointer (some ⟨S, 0, none⟩), .int .u32 (x : Int)] w fun e w' => e = .returned (.int .i64 (M.levI x)) ∧ w' = w := by obtain ⟨I, h, rfl⟩ := h; exact level_any h x hx
theorem s_low (h : St w S F M) (x : Nat) (hx : x < 4294967296) :
    Calls Tryz.prog 54 #[.pointer (some ⟨S, 0, none⟩), .int .u32 (x : Int)] w fun e w' => e = .returned (.int .u32 (M.lowN x : Int)) ∧ w' = w := by obtain ⟨I, h, rfl⟩ := h; exact low_any h x hx
theorem s_high (h : St w S F M) (x : Nat) (hx : x < 4294967296) :
    Calls Tryz.prog 55 #[.pointer (some ⟨S, 0, none⟩), .int .u32 (x : Int)] w fun e w' => e = .returned (.int .u32 (M.highN x : Int)) ∧ w' = w := by obtain ⟨I, h, rfl⟩ := h; exact high_any h x hx
theorem s_order (h : St w S F M) :
    Calls Tryz.prog 59 #[.pointer (some ⟨S, 0, none⟩)] w fun e w' => ∃ P l, e = .returned (.pointer (some ⟨P, 0, none⟩)) ∧ Od.IsOrd w' P M.n M.v l ∧ Below w.heap.size w w' ∧ w.heap.size ≤ P := by
  obtain ⟨I, h, rfl⟩ := h
  refine (order_any h).mono ?_
  rintro e w' ⟨rfl, o, b⟩
  exact ⟨_, _, rfl, o, b, Nat.le_refl _⟩
theorem s_order' (h : St w S F M) :
    Calls Tryz.prog 59 #[.pointer (some ⟨S, 0, none⟩)] w fun e w' => ∃ P l, e = .returned (.pointer (some ⟨P, 0, none⟩)) ∧ Od.IsOrd w' P M.n M.v l ∧ (∀ i, i < M.n → l (M.v i) = i) ∧ Below w.heap.size w w' ∧ w.heap.size ≤ P := by
  obtain ⟨I, h, rfl⟩ := h
  refine (order_any h).mono ?_
  rintro e w' ⟨rfl, o, b⟩
  exact ⟨_, _, rfl, o, h.pu.inv, b, Nat.le_refl _⟩
theorem s_all (h : St w S F M) :
    Calls Tryz.prog 50 #[.pointer (some ⟨S, 0, none⟩)] w fun e w' => ∃ g, e = .returned (.slice (some ⟨g, 0, none⟩) M.hs.length M.hs.length) ∧ w'.rowIs g 30 M.hs.length (fun i => .int .u32 (M.hs.getD i 0 : Nat)) ∧ Below w.heap.size w w' ∧ w.heap.size ≤ g := by
  obtain ⟨I, h, rfl⟩ := h
  refine (all_any h).mono ?_
  rintro e w' ⟨rfl, o, b⟩
  refine ⟨_, rfl, o.congr fun i hi => ?_, b, Nat.le_refl _⟩
  have e : M.hs.getD i 0 = i + 2 := by
    have := h.pu.hs
    generalize M.hs.length = L at hi this
    rw [this, List.getD_eq_getElem?_getD, List.getElem?_range' hi]
    simp [Nat.add_comm]
  rw [e]
  simp
theorem s_mk_var (h : St w S F M) (l : Int) (x y : Value) (hl : l < 0 ∨ (M.n : Int) ≤ l) :
    Calls Tryz.prog 78 #[.pointer (some ⟨S, 0, none⟩), .int .i64 l, x, y] w fun e w' => e = .returned (.tuple #[.int .u32 0, .int .i64 40]) ∧ w' = w := by obtain ⟨I, h, rfl⟩ := h; exact mk_var h l x y hl
theorem s_mk_node (h : St w S F M) (l a b : Nat) (hl : l < M.n) (ha : a < 4294967296) (hb : b < 4294967296) (hn : ¬ M.isNode a ∨ ¬ M.isNode b) :
    Calls Tryz.prog 78 #[.pointer (some ⟨S, 0, none⟩), .int .i64 (l : Int), .int .u32 (a : Int), .int .u32 (b : Int)] w fun e w' => e = .returned (.tuple #[.int .u32 0, .int .i64 101]) ∧ w' = w := by obtain ⟨I, h, rfl⟩ := h; exact mk_node h l a b hl ha hb hn
theorem s_mk_level (h : St w S F M) (l a b : Nat) (hl : l < M.n) (na : M.isNode a) (nb : M.isNode b) (hn : M.lev a ≤ l ∨ M.lev b ≤ l) :
    Calls Tryz.prog 78 #[.pointer (some ⟨S, 0, none⟩), .int .i64 (l : Int), .int .u32 (a : Int), .int .u32 (b : Int)] w fun e w' => e = .returned (.tuple #[.int .u32 0, .int .i64 100]) ∧ w' = w := by obtain ⟨I, h, rfl⟩ := h; exact mk_level h l a b hl na nb hn
theorem s_mk_same (h : St w S F M) (l a : Nat) (hl : l < M.lev a) (na : M.isNode a) :
    Calls Tryz.prog 78 #[.pointer (some ⟨S, 0, none⟩), .int .i64 (l : Int), .int .u32 (a : Int), .int .u32 (a : Int)] w fun e w' => e = .returned (.tuple #[.int .u32 (a : Int), .int .i64 0]) ∧ w' = w := by obtain ⟨I, h, rfl⟩ := h; exact mk_same h l a hl na
theorem s_mk_there (h : St w S F M) (l a b : Nat) (f : M.Fits (l, a, b)) (x : Nat) (hx : x ∈ M.hs) (e : M.nd x = (l, a, b)) :
    Calls Tryz.prog 78 #[.pointer (some ⟨S, 0, none⟩), .int .i64 (l : Int), .int .u32 (a : Int), .int .u32 (b : Int)] w fun e w' => e = .returned (.tuple #[.int .u32 (x : Int), .int .i64 0]) ∧ ∃ F', St w' S F' M ∧ Wf F F' w w' := by
  obtain ⟨I, h, rfl⟩ := h
  obtain ⟨i, rfl⟩ : ∃ i, x = i + 2 := ⟨x - 2, by have := (h.pu.mem_iff.1 hx).1; omega⟩
  refine (mk_there h l a b f i (by have := (h.pu.mem_iff.1 hx).2; omega) e).mono ?_
  rintro e w' ⟨rfl, I', h', b'⟩
  exact ⟨by simp, _, ⟨I', h', rfl⟩, b'⟩
theorem s_mk_full (h : St w S F M) (l a b : Nat) (f : M.Fits (l, a, b)) (no : ∀ k ∈ M.hs, M.nd k ≠ (l, a, b)) (full : M.hs.length = M.room) :
    Calls Tryz.prog 78 #[.pointer (some ⟨S, 0, none⟩), .int .i64 (l : Int), .int .u32 (a : Int), .int .u32 (b : Int)] w fun e w' => e = .returned (.tuple #[.int .u32 0, .int .i64 60]) ∧ ∃ F', St w' S F' M ∧ Wf F F' w w' := by
  obtain ⟨I, h, rfl⟩ := h
  refine (mk_full h l a b f no full).mono ?_
  rintro e w' ⟨rfl, I', h', b'⟩
  exact ⟨rfl, _, ⟨I', h', rfl⟩, b'⟩
theorem s_mk_new (h : St w S F M) (l a b : Nat) (f : M.Fits (l, a, b)) (no : ∀ k ∈ M.hs, M.nd k ≠ (l, a, b)) (room : M.hs.length < M.room) :
    Calls Tryz.prog 78 #[.pointer (some ⟨S, 0, none⟩), .int .i64 (l : Int), .int .u32 (a : Int), .int .u32 (b : Int)] w fun e w' => ∃ x : Nat, e = .returned (.tuple #[.int .u32 (x : Int), .int .i64 0]) ∧ ∃ F' M', M.Adds x (l, a, b) M' ∧ St w' S F' M' ∧ Wf F F' w w' ∧ x ≤ M.room + 1 := by
  obtain ⟨I, h, rfl⟩ := h
  have hp := h.pu
  refine (mk_new h l a b f no room).mono ?_
  rintro e w' ⟨rfl, I', h', b'⟩
  exact ⟨M.hs.length + 2, by simp, _, _, hp.adds, ⟨I', h', rfl⟩, b', by omega⟩
end
theorem s_new (n r : Nat) (w : World) (h1 : 1 ≤ n) (h8 : n ≤ 8) (r1 : 1 ≤ r) (r2 : r ≤ 32768) :
    Calls Tryz.prog 10 #[.int .i64 (n : Int), .int .i64 (r : Int)] w fun e w' => ∃ S F, e = .returned (.tuple #[.pointer (some ⟨S, 0, none⟩), .int .i64 0]) ∧ St w' S F (Mdl.empty n r) ∧ Below w.heap.size w w' ∧ ∀ k, F k → w.heap.size ≤ k := by
  refine (new_ok n r w h1 h8 r1 r2).mono ?_
  rintro e w' ⟨S, I, rfl, h, b, k⟩
  exact ⟨S, _, rfl, ⟨I, h, rfl⟩, b, k⟩

/-- What Mk comes to, whatever is asked. -/
structure MkTold (M : Mdl) (l : Int) (a b : Nat) (x : Nat) (er : Int) (M' : Mdl) : Prop where
  var : (l < 0 ∨ (M.n : Int) ≤ l) → x = 0 ∧ er = 40 ∧ M' = M
  node : 0 ≤ l → l < M.n → (¬ M.isNode a ∨ ¬ M.isNode b) → x = 0 ∧ er = 101 ∧ M' = M
  level : 0 ≤ l → l < M.n → M.isNode a → M.isNode b → ((M.lev a : Int) ≤ l ∨ (M.lev b : Int) ≤ l) → x = 0 ∧ er = 100 ∧ M' = M
  same : 0 ≤ l → M.isNode a → l < M.lev a → a = b → x = a ∧ er = 0 ∧ M' = M
  fits : 0 ≤ l → M.Fits (l.toNat, a, b) → (∃ k ∈ M.hs, M.nd k = (l.toNat, a, b) ∧ x = k ∧ er = 0 ∧ M' = M) ∨ ((∀ k ∈ M.hs, M.nd k ≠ (l.toNat, a, b)) ∧ M.hs.length = M.room ∧ x = 0 ∧ er = 60 ∧ M' = M) ∨ ((∀ k ∈ M.hs, M.nd k ≠ (l.toNat, a, b)) ∧ M.hs.length < M.room ∧ er = 0 ∧ M.Adds x (l.toNat, a, b) M')
end Go.Proofs.YtdjjelknjojnfaaGreat

namespace Go.Proofs.YtdjjelknjojnfaaGreat
open Go.ChangeShapes Go.WideShapes Go.ChangeAt Go.RowKit

theorem try_own : ownKnob Tryz.prog.godebug = none := by kernel_rfl
theorem try_laid : laidOutB Tryz.prog = true := by kernel_rfl

theorem wf_u8 {z : Int} (h : (Lit.int .u8 z).wf = true) : 0 ≤ z ∧ z ≤ 255 := by
  have h1 : IntKind.u8.min = 0 := rfl
  have h2 : IntKind.u8.max = 255 := rfl
  simp only [Lit.wf, Bool.and_eq_true, decide_eq_true_eq] at h
  omega
theorem wf_u16 {z : Int} (h : (Lit.int .u16 z).wf = true) : 0 ≤ z ∧ z ≤ 65535 := by
  have h1 : IntKind.u16.min = 0 := rfl
  have h2 : IntKind.u16.max = 65535 := rfl
  simp only [Lit.wf, Bool.and_eq_true, decide_eq_true_eq] at h
  omega
theorem wf_i64 {z : Int} (h : (Lit.int .i64 z).wf = true) : -9223372036854775808 ≤ z ∧ z ≤ 9223372036854775807 := by
  have h1 : IntKind.i64.min = -9223372036854775808 := rfl
  have h2 : IntKind.i64.max = 9223372036854775807 := rfl
  simp only [Lit.wf, Bool.and_eq_true, decide_eq_true_eq] at h
  omega
theorem wf_u32 {z : Int} (h : (Lit.int .u32 z).wf = true) : 0 ≤ z ∧ z ≤ 4294967295 := by
  have h1 : IntKind.u32.min = 0 := rfl
  have h2 : IntKind.u32.max = 4294967295 := rfl
  simp only [Lit.wf, Bool.and_eq_true, decide_eq_true_eq] at h
  omega
theorem wf_u64 {z : Int} (h : (Lit.int .u64 z).wf = true) : 0 ≤ z ∧ z ≤ 18446744073709551615 := by
  have h1 : IntKind.u64.min = 0 := rfl
  have h2 : IntKind.u64.max = 18446744073709551615 := rfl
  simp only [Lit.wf, Bool.and_eq_true, decide_eq_true_eq] at h
  omega

set_option maxRecDepth 100000 in
theorem view_ints {H : Type} {enc : TypeId × Value → H} {W : World} {base : Nat} {r : Reach} {t e : TypeId} {k : IntKind} {v : Value} {d : DataW H} {p : List MemPlace}
    (ht : Tryz.prog.underlying t = some (.slice e)) (he : Tryz.prog.underlying e = some (.int k)) (hc : Tryz.prog.cellsOf e = 1)
    (hv : Value.okWide Tryz.prog W r base t v) (h : DataW.Trod enc Tryz.prog W 0 (fun _ => true) true t v d p) :
    ∃ (ad : Option Addr) (len cap : Nat), v = .slice ad len cap ∧ (len = 0 ∨ ∃ (b off : Nat) (Z : Nat → Int), ad = some ⟨b, off, none⟩ ∧ b < W.heap.size ∧ ∀ i, i < len → W.cell? ⟨b, off + i, none⟩ = some (.int k (Z i)) ∧ (Lit.int k (Z i)).wf = true) := by
  obtain ⟨ad, len, cap, rfl⟩ := okWide_slice ht hv
  refine ⟨ad, len, cap, rfl, ?_⟩
  obtain ⟨fuel, hf⟩ := h
  rcases open_ints ht he hc hf with ⟨hcs, _⟩ | ⟨a, len', cap', zs, hcs, _, hl, _, hz, _, hcell, hwz⟩
  · simp [Value.cells] at hcs
    exact Or.inl hcs.2.1
  · simp [Value.cells] at hcs
    obtain ⟨rfl, rfl, rfl⟩ := hcs
    rw [if_pos rfl] at hz
    by_cases h0 : len = 0
    · exact Or.inl h0
    · right
      have c0 := hcell 0 (by omega)
      obtain ⟨e', n', hs, _, hsp⟩ := World.shape?_of_cell? c0
      obtain ⟨b, off, sp⟩ := a
      have hsp' : sp = none := hsp
      subst hsp'
      have hadd : ∀ i, (⟨b, off, none⟩ : Addr).add i = ⟨b, off + i, none⟩ := fun i => by
        by_cases hi : i = 0
        · subst hi; rfl
        · simp [Addr.add, hi]
      refine ⟨b, off, fun i => zs.getD i 0, rfl, ?_, fun i hi => ⟨by rw [← hadd]; exact hcell i (by omega), ?_⟩⟩
      · rw [hadd] at c0
        cases hh : W.heap[b]? with
        | none => simp [World.cell?, hh] at c0
        | some o => exact (Array.getElem?_eq_some_iff.1 hh).1
      · have hi' : i < zs.length := by omega
        have : zs.getD i 0 = zs[i] := by simp [List.getD, List.getElem?_eq_getElem hi']
        show (Lit.int k (zs.getD i 0)).wf = true
        rw [this]
        exact hwz _ (List.getElem_mem hi')

end Go.Proofs.YtdjjelknjojnfaaGreat

namespace Go.Proofs.YtdjjelknjojnfaaGreat
open Go Go.RowKit

theorem stCell_26 (n : Nat) (v l : Nat → Nat) (room : Nat) (ad : Option Addr) (L cap P mp lines : Nat) (on on' : Bool) (i : Nat) (hi : i < 27) : (if i = 26 then .bool on' else stCell n v l room ad L cap P mp lines on i) = stCell n v l room ad L cap P mp lines on' i := by
  unfold stCell
  by_cases e : i = 26
  · subst e; simp
  · rw [if_neg e]
    by_cases h1 : i < 17
    · rw [if_pos h1, if_pos h1]
    · have : i = 17 ∨ i = 18 ∨ i = 19 ∨ i = 20 ∨ i = 21 ∨ i = 22 ∨ i = 23 ∨ i = 24 ∨ i = 25 := by omega
      rcases this with rfl | rfl | rfl | rfl | rfl | rfl | rfl | rfl | rfl <;> simp
def Ins.turned (I : Ins) (on : Bool) : Ins := ⟨I.P, I.R, I.mp, I.ad, I.cap, I.lines, I.c, I.wd, I.nm, I.l, on⟩
section
variable {w w' : World} {S : Nat} {M : Mdl} {I : Ins}
theorem Pu.turned (p : Pu M I) (on : Bool) : Pu M (I.turned on) := ⟨p.ok, p.inv, p.room1, p.room2, p.lines1, p.lines2, p.hs, p.wd, p.fit, p.good, p.tab, p.all, p.cnt, p.cch⟩
/-- The cells of a store whose cache is cleared. -/
theorem Pu.clear (p : Pu M I) {c' : Nat → Int} (fit : Ch.U64 c') (z : ∀ j, j < I.lines → c' (2 * M.room + 4 * j + 1) = 0) (same : ∀ i, i < 2 * M.room → c' i = I.c i) : Pu M (I.cells c') := by
  have pl : ∀ (k : Int) j, Tb.place (2 * M.room) k j < 2 * M.room := fun k j => Tb.place_lt k j (by have := p.room1; omega)
  refine ⟨p.ok, p.inv, p.room1, p.room2, p.lines1, p.lines2, p.hs, p.wd, fit, fun k j hk hj e q hq => ?_, fun s hs h0 => ?_, fun j hj => ?_, ?_, fun key k0 k1 hh => ?_⟩
  · change c' _ = k at e
    show ¬ c' _ = 0 ∧ ¬ c' _ = k
    rw [same _ (pl k j)] at e
    rw [same _ (pl k q)]
    exact p.good k j hk hj e q hq
  · change ¬ c' _ = 0 at h0
    rw [same s hs] at h0
    obtain ⟨j, hj, e1, e2⟩ := p.tab s hs h0
    exact ⟨j, hj, (same s hs).trans e1, e2⟩
  · obtain ⟨s, hs, e⟩ := p.all j hj
    exact ⟨s, hs, (same s hs).trans e⟩
  · rw [← p.cnt]
    exact Tb.cnt_congr _ fun s hs => same s hs
  · exfalso
    change Ch.Hits c' (Ch.line (2 * M.room) I.lines key) key at hh
    obtain ⟨h0, _, h2, _⟩ := hh
    have e := z (home key I.lines) (home_lt key p.lines1)
    rw [show Ch.line (2 * M.room) I.lines key = 2 * M.room + 4 * home key I.lines from rfl] at h0 h2
    rw [e] at h2
    exact h0 (h2.symm.trans (by simp [Ch.hi]))
theorem StI.told (h : StI w S M I) (on : Bool) : StI (w.setCell ⟨S, 26, none⟩ (.bool on)) S M (I.turned on) ∧ Wf (Fp S I) (Fp S I) w (w.setCell ⟨S, 26, none⟩ (.bool on)) := by
  obtain ⟨a1, a2, a3, a4, a5, a6, a7, a8, a9⟩ := h.apart
  obtain ⟨o, f, m⟩ := h.mem
  have k : ∀ b, b ≠ S → (w.setCell ⟨S, 26, none⟩ (.bool on)).heap[b]? = w.heap[b]? := fun b hb => Below.heap_setCell _ _ _ _ hb
  refine ⟨⟨(h.blk.set 26 _).congr fun i hi => stCell_26 _ _ _ _ _ _ _ _ _ _ _ on i hi, ⟨o, f, m.of_blocks (k _ a1.symm) (k _ a2.symm)⟩, h.own.kept fun b hb => k b fun e => a6 (e ▸ hb), h.map.same (k _ a3.symm), h.pu.turned on⟩, ?_⟩
  have g : Below S w (w.setCell ⟨S, 26, none⟩ (.bool on)) := (Below.refl S w).setCell (Nat.le_refl _) _
  exact ⟨g.os, g.tape, g.output, g.size, fun b _ hf => k b fun e => hf (.inl e), fun b hb => .inl hb⟩
set_option maxHeartbeats 1000000 in
theorem cached_any (h : StI w S M I) (on : Bool) :
    Calls Tryz.prog 17 #[.pointer (some ⟨S, 0, none⟩), .bool on] w fun e w' => e = .returned (.tuple #[]) ∧ ∃ I', StI w' S M I' ∧ Fp S I' = Fp S I ∧ Wf (Fp S I) (Fp S I) w w' := by
  have c26 := h.c26
  have f26 := h.free 26
  obtain ⟨t1, t2⟩ := h.told on
  cases on with
  | true =>
    go_enter Tryz.func17, Tryz.ntmps17
    go_wp2_with fail
    go_end0
    exact ⟨rfl, I.turned true, t1, rfl, t2⟩
  | false =>
    obtain ⟨o, f, hc⟩ := t1.ch
    have K := Ch.clear_any hc
    go_enter Tryz.func17, Tryz.ntmps17
    go_wp2_with (first
      | (go_at_call 56; refine K.mono ?_; clear K; rintro e w2 ⟨rfl, ⟨c', o2, f2, s2, z2, e2⟩, m2⟩))
    go_end0
    have p2 := t1.pu.clear s2.fit z2 e2
    obtain ⟨u1, u2⟩ := t1.turn (c' := c') ⟨m2.os, m2.tape, m2.output, m2.size, fun k hk hn => m2.block k hk (fun e => hn (.inl e)) fun e => hn (.inr (.inl e))⟩ s2.mem p2
    exact ⟨rfl, _, u1, rfl, t2.trans u2⟩
end
theorem s_cached {w : World} {S : Nat} {F : Nat → Prop} {M : Mdl} (h : St w S F M) (on : Bool) :
    Calls Tryz.prog 17 #[.pointer (some ⟨S, 0, none⟩), .bool on] w fun e w' => e = .returned (.tuple #[]) ∧ ∃ F', St w' S F' M ∧ Wf F F' w w' := by
  obtain ⟨I, h, rfl⟩ := h
  exact (cached_any h on).mono fun e w' ⟨he, I', h', hf, g⟩ => ⟨he, Fp S I, ⟨I', h', hf.symm⟩, g⟩
end Go.Proofs.YtdjjelknjojnfaaGreat
