/-
  A row of handles in a block, all else as it was; what comparing and exchanging two of them does.
  Maps from handles to numbers: what is looked up, laid and struck, as a function of the key; their keys, gone through in whatever order.
  Maps from handles to numbers: what is looked up, laid and struck, as a function of the key; their keys, gone through in whatever order.
  The library's keys of a map of handles, gathered into a slice of the call's own: each once.
  The library's keys of a map of handles, gathered into a slice of the call's own: each once.
  The library's insertion sort over a row of handles.
  The library's reversing of a part of a row, and its choice of a pivot.
  The library's partitions of a part of a row.
  The library's heap sort over a part of a row.
  The library's insertion sort that gives up early, over a part of a row.
  The library's breaking of patterns in a part of a row: some exchanges within it.
  The library's sort of a row: what comes out is what went in, in rising order.
  The library's sort of no handles at all.
  The library's deleting by a test and its compacting, over a row of handles.
  The library's compacting of a sorted row of handles: each once.
  Slices of handles that are appended to; stacks of them, a slice each.
  What the library's functions do to a slice of handles, nil or not: sorted, filtered, compacted, gathered from a map's keys.
  What is met, as a sorted slice of handles.
-/
import Derived.Test.YteickckgljlacaaGreatProg
import Derived.WalkKit
import Derived.Handy
import Derived.Carry
import Derived.Deep.OwnRows
import Derived.Deep.QuietTactic
import Derived.Deep.LoopGhost
import Derived.BigQuiet
import Derived.BigRegion
import Derived.Sort.AssemblyPlain
import Derived.MapKept
import Derived.Laws.IdiomRangeMap
import Derived.RangeFuncBox
import Derived.RangeFuncNested
import Derived.RangeFuncLeaves
import Derived.Shelf.Abstract
import Derived.OwnWalkIn
import Derived.TacticsInMore
import Derived.LoopNIn
import Derived.LoopIn
import Derived.Sort.LoopGhostIn
import Derived.Maps.AppendAt
import Derived.Deep.CutRange
import Derived.Test.YteickckgljlacaaGreatRsLen
import Derived.Laws.Bits64b
import Derived.Lib.SliceRun
import Derived.Deep.AppendLies
import Derived.Deep.Upon
import Derived.Deep.RegionLaw
namespace Go.Proofs.YteickckgljlacaaGreat.Rs
open Go Go.RowKit

/-- All but the blocks of S stay as they were; there may be new ones. -/
structure Went (S : Nat → Prop) (w w' : World) : Prop where
  os : w'.os = w.os
  tape : w'.tape = w.tape
  output : w'.output = w.output
  size : w.heap.size ≤ w'.heap.size
  block : ∀ k, k < w.heap.size → ¬ S k → w'.heap[k]? = w.heap[k]?

namespace Went
variable {S S' : Nat → Prop} {a b c w w' : World}
theorem refl (S : Nat → Prop) (w : World) : Went S w w := ⟨rfl, rfl, rfl, Nat.le_refl _, fun _ _ _ => rfl⟩
theorem trans (h : Went S a b) (k : Went S b c) : Went S a c :=
  ⟨k.os.trans h.os, k.tape.trans h.tape, k.output.trans h.output, Nat.le_trans h.size k.size, fun i hi hs => (k.block i (Nat.lt_of_lt_of_le hi h.size) hs).trans (h.block i hi hs)⟩
theorem wider (h : Went S a b) (k : ∀ i, S i → S' i) : Went S' a b := ⟨h.os, h.tape, h.output, h.size, fun i hi hs => h.block i hi fun e => hs (k i e)⟩
/-- What is new to the first world may be turned. -/
theorem old (h : Went S a b) (k : ∀ i, i < a.heap.size → S i → S' i) : Went S' a b := ⟨h.os, h.tape, h.output, h.size, fun i hi hs => h.block i hi fun e => hs (k i hi e)⟩
theorem below {B : Nat} (h : Went S w w') (hB : B ≤ w.heap.size) (hS : ∀ i, S i → B ≤ i) : Below B w w' :=
  ⟨h.os, h.tape, h.output, h.size, fun k hk => h.block k (by omega) fun e => by have := hS k e; omega⟩
theorem of_below (h : Below w.heap.size w w') : Went S w w' := ⟨h.os, h.tape, h.output, h.size, fun k hk _ => h.block k hk⟩
theorem set {k o : Nat} (h : S k) (w : World) (v : Value) : Went S w (w.setCell ⟨k, o, none⟩ v) :=
  ⟨rfl, rfl, rfl, by simp [World.setCell], fun i _ hs => Below.heap_setCell _ _ _ _ fun e => hs (e ▸ h)⟩
theorem new (S : Nat → Prop) (w : World) (o : Obj) : Went S w (w.alloc o) := ⟨rfl, rfl, rfl, by simp, fun k hk _ => Below.heap_alloc _ _ _ hk⟩
theorem drew (h : Went S a b) : Went S a b.drew := ⟨h.os, h.tape, h.output, h.size, h.block⟩
theorem undrew (h : Went S a.drew b) : Went S a b := ⟨h.os, h.tape, h.output, h.size, h.block⟩
theorem drewN (h : Went S a b) (q : Nat) : Went S a (b.drewN q) := ⟨h.os, h.tape, h.output, h.size, h.block⟩
theorem undrewN {q : Nat} (h : Went S (a.drewN q) b) : Went S a b := ⟨h.os, h.tape, h.output, h.size, h.block⟩
end Went

/-- The cells of a row: the handles, then whatever lies behind. -/
def rowf (d : Array Int) (U : Nat → Value) : Nat → Value := fun i => if i < d.size then .int .u32 d[i]! else U i

/-- The block holds the handles d, behind them U; all other blocks of w0 are as they were. -/
structure Rw (w0 : World) (blk cap : Nat) (U : Nat → Value) (d : Array Int) (w : World) : Prop where
  row : w.rowIs blk 38 cap (rowf d U)
  le : d.size ≤ cap
  went : Went (fun k => k = blk) w0 w
  old : blk < w0.heap.size

section
variable {w0 w : World} {blk cap : Nat} {U : Nat → Value} {d : Array Int}
theorem Rw.cell (h : Rw w0 blk cap U d w) {i : Nat} (hi : i < d.size) : w.cell? ⟨blk, i, none⟩ = some (.int .u32 d[i]!) := by
  have := h.row.cell (i := i) (by have := h.le; omega)
  rw [this, rowf, if_pos hi]
theorem Rw.free (h : Rw w0 blk cap U d w) (i : Nat) : w.frozen? ⟨blk, i, none⟩ = false := h.row.frozen i
theorem Rw.drew (h : Rw w0 blk cap U d w) : Rw w0 blk cap U d w.drew := ⟨h.row.drew, h.le, h.went.drew, h.old⟩
theorem Rw.drewN (h : Rw w0 blk cap U d w) (q : Nat) : Rw w0 blk cap U d (w.drewN q) := ⟨h.row.of_block rfl, h.le, h.went.drewN q, h.old⟩
theorem Rw.alloc (h : Rw w0 blk cap U d w) (o : Obj) : Rw w0 blk cap U d (w.alloc o) := ⟨h.row.alloc o, h.le, h.went.trans (Went.new _ _ _), h.old⟩
theorem Rw.setNew (h : Rw w0 blk cap U d w) {b : Nat} (hb : w0.heap.size ≤ b) (o : Nat) (v : Value) : Rw w0 blk cap U d (w.setCell ⟨b, o, none⟩ v) :=
  ⟨h.row.setOther (by have := h.old; show blk ≠ b; omega) v, h.le, (h.went.wider (S' := fun k => k = blk ∨ w0.heap.size ≤ k) fun _ e => .inl e).trans (Went.set (.inr hb) w v) |>.old fun i hi e => e.elim id fun e => by omega, h.old⟩
theorem Rw.lt (h : Rw w0 blk cap U d w) : blk < w.heap.size := h.row.lt
theorem Rw.size_le (h : Rw w0 blk cap U d w) : w0.heap.size ≤ w.heap.size := h.went.size
/-- From here on. -/
theorem Rw.here (h : Rw w0 blk cap U d w) : Rw w blk cap U d w := ⟨h.row, h.le, Went.refl _ _, h.lt⟩
theorem Rw.on {w' : World} {d' : Array Int} {U' : Nat → Value} (h : Rw w0 blk cap U d w) (k : Rw w blk cap U' d' w') : Rw w0 blk cap U' d' w' := ⟨k.row, k.le, h.went.trans k.went, h.old⟩

theorem get_set (d : Array Int) (i : Nat) (v : Int) (hi : i < d.size) (k : Nat) : (d.setIfInBounds i v)[k]! = if k = i then v else d[k]! := by
  by_cases e : k = i
  · subst e
    rw [if_pos rfl, getElem!_pos _ k (by simpa using hi)]
    simp
  · rw [if_neg e]
    by_cases hk : k < d.size
    · rw [getElem!_pos _ k (by simpa using hk), getElem!_pos d k hk]
      rw [Array.getElem_setIfInBounds_ne _ (by omega)]
    · rw [getElem!_neg _ k (by simpa using hk), getElem!_neg d k hk]
theorem Rw.set (h : Rw w0 blk cap U d w) (i : Nat) (hi : i < d.size) (v : Int) : Rw w0 blk cap U (d.setIfInBounds i v) (w.setCell ⟨blk, i, none⟩ (.int .u32 v)) := by
  refine ⟨(h.row.set i _).congr fun j hj => ?_, by simpa using h.le, h.went.trans (Went.set (S := fun k => k = blk) rfl w _), h.old⟩
  unfold rowf
  simp only [Array.size_setIfInBounds, get_set d i v hi]
  by_cases e : j = i
  · subst e
    simp [hi]
  · simp [e]
theorem Rw.swp (h : Rw w0 blk cap U d w) (i j : Nat) (hi : i < d.size) (hj : j < d.size) :
    Rw w0 blk cap U (Sort.swp d i j) ((w.setCell ⟨blk, i, none⟩ (.int .u32 d[j]!)).setCell ⟨blk, j, none⟩ (.int .u32 d[i]!)) :=
  (h.set i hi d[j]!).set j (by simpa using hj) d[i]!
/-- Behind the first store the second cell is there still. -/
theorem Rw.cell2 (h : Rw w0 blk cap U d w) (i j : Nat) (hi : i < d.size) (hj : j < d.size) (v : Int) : ∃ u, (w.setCell ⟨blk, i, none⟩ (.int .u32 v)).cell? ⟨blk, j, none⟩ = some u :=
  ⟨_, (h.set i hi v).cell (by simpa using hj)⟩
end
theorem size_swp (d : Array Int) (i j : Nat) : (Sort.swp d i j).size = d.size := by simp [Sort.swp]

/-! ## Comparing -/
theorem isNaN_any (x : Int) (w : World) : Calls Tryz.prog 147 #[.int .u32 x] w fun e w' => e = .returned (.bool false) ∧ w' = w := by
  go_enter Tryz.func147, Tryz.ntmps147
  go_wp2
  go_ret
  simp
theorem less_any (x y : Int) (w : World) : Calls Tryz.prog 124 #[.int .u32 x, .int .u32 y] w fun e w' => e = .returned (.bool (Sort.ltInt x y)) ∧ w' = w := by
  have K := fun x => isNaN_any x w
  go_enter Tryz.func124, Tryz.ntmps124
  go_wp2_with (go_at_call 147; refine (K _).mono ?_; rintro e w' ⟨rfl, rfl⟩)
  go_ret
  exact ⟨rfl, rfl⟩
end Go.Proofs.YteickckgljlacaaGreat.Rs

namespace Go.Proofs.YteickckgljlacaaGreat.Rm
open Rs
open Go Go.RowKit

/-- What a list of pairs tells at a key. -/
def look : List (Int × Int) → Int → Option Int
  | [], _ => none
  | p :: l, k => if p.1 = k then some p.2 else look l k

theorem look_none {k : Int} : ∀ {l : List (Int × Int)}, look l k = none ↔ ∀ p ∈ l, p.1 ≠ k
  | [] => by simp [look]
  | p :: l => by
    have := look_none (k := k) (l := l)
    by_cases h : p.1 = k
    · simp [look, h]
    · simp [look, h, this]
theorem look_append (k : Int) (v : Int) (k' : Int) : ∀ (l : List (Int × Int)), look l k = none → look (l ++ [(k, v)]) k' = if k' = k then some v else look l k'
  | [], _ => by
    by_cases h : k' = k
    · simp [look, h]
    · have h' : ¬ k = k' := fun e => h e.symm
      simp [look, h, h']
  | p :: l, h => by
    have hp : p.1 ≠ k := look_none.1 h p (by simp)
    have hl : look l k = none := look_none.2 fun q hq => look_none.1 h q (by simp [hq])
    have := look_append k v k' l hl
    by_cases e : p.1 = k'
    · have : k' ≠ k := fun x => hp (e.trans x)
      simp [look, e, this]
    · simp [look, e, this]
theorem look_set (k v v0 k' : Int) : ∀ (l : List (Int × Int)) (j : Nat), (l.map (·.1)).Nodup → l[j]? = some (k, v0) → look (l.set j (k, v)) k' = if k' = k then some v else look l k'
  | [], j, _, h => by simp at h
  | p :: l, 0, _, h => by
    obtain rfl : p = (k, v0) := by simpa using h
    by_cases e : k' = k
    · simp [look, e]
    · have e' : ¬ k = k' := fun x => e x.symm
      simp [look, e, e']
  | p :: l, j + 1, hn, h => by
    have h' : l[j]? = some (k, v0) := by simpa using h
    have hn' : (l.map (·.1)).Nodup := (List.nodup_cons.1 (by simpa using hn)).2
    have hp : p.1 ≠ k := fun e => (List.nodup_cons.1 (show (p.1 :: l.map (·.1)).Nodup by simpa using hn)).1 (e ▸ List.mem_map.2 ⟨_, List.mem_of_getElem? h', rfl⟩)
    have := look_set k v v0 k' l j hn' h'
    by_cases e : p.1 = k'
    · have : k' ≠ k := fun x => hp (e.trans x)
      simp [look, e, this]
    · simp [look, e, this]
def pairV (p : Int × Int) : Value × Value := (.int .u32 p.1, .agg #[])

theorem find_spec (k : Int) : ∀ (es : List MapEntry) (l : List (Int × Int)) (i : Nat), es.map (fun e => (e.key, e.val)) = l.map pairV →
    (Instr.findNow (.int .u32) (.int .u32 k) es i = some none ∧ look l k = none) ∨ ∃ (j : Nat) (v : Int), Instr.findNow (.int .u32) (.int .u32 k) es i = some (some (i + j, .agg #[])) ∧ l[j]? = some (k, v) ∧ look l k = some v
  | [], l, i, h => by
    cases l with
    | nil => exact .inl ⟨rfl, rfl⟩
    | cons p l => simp at h
  | e :: es, l, i, h => by
    cases l with
    | nil => simp at h
    | cons p l =>
      simp only [List.map_cons, List.cons.injEq, pairV, Prod.mk.injEq] at h
      obtain ⟨⟨h1, h2⟩, h3⟩ := h
      by_cases c : p.1 = k
      · refine .inr ⟨0, p.2, ?_, by simp [← c], by simp [look, c]⟩
        simp [Instr.findNow, h1, h2, Instr.sameNow, c]
      · have c' : (k == p.1) = false := by
          rw [beq_eq_false_iff_ne]
          exact fun x => c x.symm
        rcases find_spec k es l (i + 1) h3 with ⟨a, b⟩ | ⟨j, v, a, b, d⟩
        · exact .inl ⟨by simp [Instr.findNow, h1, Instr.sameNow, c', a], by simp [look, c, b]⟩
        · refine .inr ⟨j + 1, v, ?_, by simpa using b, by simp [look, c, d]⟩
          simp [Instr.findNow, h1, Instr.sameNow, c', a]
          omega


theorem heap_turn {w : World} {b : Nat} {o' : Obj} : Went (fun k => k = b) w { w with heap := w.heap.setIfInBounds b o' } := by
  refine ⟨rfl, rfl, rfl, by simp, fun i _ hne => ?_⟩
  simp [Array.getElem?_setIfInBounds_ne (fun e => hne e.symm)]
theorem heap_now {w : World} {b : Nat} {o o' : Obj} (hb : w.heap[b]? = some o) : ({ w with heap := w.heap.setIfInBounds b o' } : World).heap[b]? = some o' := by
  have hlt : b < w.heap.size := (Array.getElem?_eq_some_iff.1 hb).1
  simp [hlt]
/-- The entries hold these pairs, each key once. -/
structure MapIs (es : Array MapEntry) (clock : Nat) (l : List (Int × Int)) : Prop where
  pairs : es.toList.map (fun e => (e.key, e.val)) = l.map pairV
  old : ∀ x ∈ es.toList, x.born < clock
  once : (es.toList.map (·.born)).Nodup
  nodup : (l.map (·.1)).Nodup
/-- The map in block b tells P; it has at most m keys. -/
def IsMap (w : World) (b : Nat) (P : Int → Option Int) (m : Nat) : Prop :=
  ∃ (es : Array MapEntry) (clock : Nat) (l : List (Int × Int)), w.heap[b]? = some (.map es clock) ∧ MapIs es clock l ∧ (∀ k, look l k = P k) ∧ l.length ≤ m
section
variable {w u : World} {b m : Nat} {P P' : Int → Option Int}
theorem IsMap.lt (h : IsMap w b P m) : b < w.heap.size := by
  obtain ⟨es, clock, l, h, _⟩ := h
  exact (Array.getElem?_eq_some_iff.1 h).1
theorem IsMap.same (h : IsMap w b P m) (e : u.heap[b]? = w.heap[b]?) : IsMap u b P m := by
  obtain ⟨es, clock, l, h, k⟩ := h
  exact ⟨es, clock, l, e.trans h, k⟩
theorem IsMap.congr (h : IsMap w b P m) (e : ∀ k, P k = P' k) : IsMap w b P' m := by
  obtain ⟨es, clock, l, h, k2, k3, k4⟩ := h
  exact ⟨es, clock, l, h, k2, fun k => (k3 k).trans (e k), k4⟩
theorem IsMap.more (h : IsMap w b P m) {m' : Nat} (hm : m ≤ m') : IsMap w b P m' := by
  obtain ⟨es, clock, l, h, k2, k3, k4⟩ := h
  exact ⟨es, clock, l, h, k2, k3, Nat.le_trans k4 hm⟩
theorem IsMap.fresh (w : World) : IsMap (w.alloc (.map #[] 0)) w.heap.size (fun _ => none) 0 :=
  ⟨#[], 0, [], (MapKept.heap_alloc w _).1, ⟨rfl, by simp, by simp, by simp⟩, fun _ => rfl, Nat.le_refl _⟩
end

/-- A function with one value turned. -/
def at1 {α : Type} (P : Int → α) (k : Int) (v : α) : Int → α := fun i => if i = k then v else P i

theorem isKey (k : Int) : MapKept.IsKey (.int .u32) (.int .u32 k) := by simp [MapKept.IsKey]
theorem zero3 (w : World) : (zeroValue 125).run Tryz.prog w = .ok (.agg #[]) w := by kernel_rfl

theorem map_look {w : World} {b m : Nat} {P : Int → Option Int} (h : IsMap w b P m) (k : Int) :
    (Instr.lookup 150 (.map (some b)) (.int .u32 k) true).run Tryz.prog w = .ok (.tuple #[.agg #[], .bool (P k).isSome]) w := by
  obtain ⟨es, clock, l, hb, h1, h3, _⟩ := h
  have hc := MapKept.run_checkKey (w := w) Tryz.underlying38 (isKey k) es.isEmpty 9999
  rcases find_spec k es.toList l 0 h1.pairs with ⟨hf, hn⟩ | ⟨j, v, hf, hj, hl⟩
  · have hf' := MapKept.run_findKey (w := w) Tryz.underlying38 hf
    rw [h3 k] at hn
    simp only [Instr.lookup, Sem.run_bind, run_underlying Tryz.underlying150, Result.andThen_ok, MapKept.run_getObj_map hb, Sem.run_pure, hc, hf', zero3, hn]
    rfl
  · have hf' := MapKept.run_findKey (w := w) Tryz.underlying38 hf
    rw [h3 k] at hl
    simp only [Instr.lookup, Sem.run_bind, run_underlying Tryz.underlying150, Result.andThen_ok, MapKept.run_getObj_map hb, Sem.run_pure, hc, hf', hl]
    rfl
theorem pairs_len {es : List MapEntry} {l : List (Int × Int)} (h : es.map (fun e => (e.key, e.val)) = l.map pairV) : es.length = l.length := by
  have := congrArg List.length h
  simpa using this
theorem map_put {w : World} {b m : Nat} {P : Int → Option Int} (h : IsMap w b P m) (k v : Int) :
    ∃ w', (Instr.mapUpdate 150 (.map (some b)) (.int .u32 k) (.agg #[])).run Tryz.prog w = .ok () w' ∧ IsMap w' b (at1 P k (some v)) (m + 1) ∧ Went (fun k => k = b) w w' := by
  obtain ⟨es, clock, l, hb, h1, h3, h4⟩ := h
  have hc := MapKept.run_checkKey (w := w) Tryz.underlying38 (isKey k) false 9999
  rcases find_spec k es.toList l 0 h1.pairs with ⟨hf, hn⟩ | ⟨j, u, hf, hj, hl⟩
  · have hf' := MapKept.run_findKey (w := w) Tryz.underlying38 hf
    refine ⟨{ w with heap := w.heap.setIfInBounds b (.map (es.push { key := .int .u32 k, val := .agg #[], born := clock }) (clock + 1)) }, ?_, ⟨_, _, l ++ [(k, v)], heap_now hb, ⟨?_, ?_, ?_, ?_⟩, ?_, by simp; omega⟩, heap_turn⟩
    · simp only [Instr.mapUpdate, Sem.run_bind, run_underlying Tryz.underlying150, Result.andThen_ok, MapKept.run_getObj_map hb, hc, hf']
      exact MapKept.run_setObj_map _ hb
    · simp [h1.pairs, pairV]
    · intro x hx
      simp at hx
      rcases hx with hx | rfl
      · have := h1.old x (by simpa using hx); omega
      · simp
    · rw [Array.toList_push, List.map_append, List.nodup_append]
      refine ⟨h1.once, by simp, fun a ha c hc' => ?_⟩
      simp at hc'
      subst hc'
      obtain ⟨x, hx, rfl⟩ := List.mem_map.1 ha
      have := h1.old x hx
      omega
    · rw [List.map_append, List.nodup_append]
      refine ⟨h1.nodup, by simp, fun a ha c hc' => ?_⟩
      simp at hc'
      subst hc'
      obtain ⟨p, hp, rfl⟩ := List.mem_map.1 ha
      exact look_none.1 hn p hp
    · intro k'
      rw [look_append k v k' l hn, h3 k']
      rfl
  · have hf' := MapKept.run_findKey (w := w) Tryz.underlying38 hf
    rw [Nat.zero_add] at hf'
    have hjk : (es[j]?).map (fun e => (e.key, e.val)) = some (pairV (k, u)) := by
      have h4 := congrArg (·[j]?) h1.pairs
      simp only [List.getElem?_map, hj, Option.map_some] at h4
      simpa using h4
    obtain ⟨e, he, hek⟩ := Option.map_eq_some_iff.1 hjk
    simp only [pairV, Prod.mk.injEq] at hek
    have hks := MapKept.run_keyThatStays (P := Tryz.prog) (w := w) (isKey k)
    have hb2 : (es.modify j fun e => { e with key := .int .u32 k, val := .agg #[] }).toList.map (·.born) = es.toList.map (·.born) := by
      rw [Array.toList_modify]
      apply List.ext_getElem?
      intro i
      simp only [List.getElem?_map, List.getElem?_modify]
      by_cases e2 : j = i
      · subst e2; simp only [if_true]; cases es.toList[j]? <;> rfl
      · simp [e2]
    refine ⟨{ w with heap := w.heap.setIfInBounds b (.map (es.modify j fun e => { e with key := .int .u32 k, val := .agg #[] }) clock) }, ?_, ⟨_, _, l.set j (k, v), heap_now hb, ⟨?_, ?_, by rw [hb2]; exact h1.once, ?_⟩, ?_, by simp; omega⟩, heap_turn⟩
    · simp only [Instr.mapUpdate, Sem.run_bind, run_underlying Tryz.underlying150, Result.andThen_ok, MapKept.run_getObj_map hb, hc, hf', he, Option.map_some, Option.getD_some, hek.1, hks]
      exact MapKept.run_setObj_map _ hb
    · rw [Array.toList_modify]
      apply List.ext_getElem?
      intro i
      have h4 := congrArg (·[i]?) h1.pairs
      simp only [List.getElem?_map] at h4
      simp only [List.getElem?_map, List.getElem?_modify, List.getElem?_set]
      by_cases e2 : j = i
      · subst e2
        have hlt : j < l.length := (List.getElem?_eq_some_iff.1 hj).1
        have he2 : es.toList[j]? = some e := by simpa using he
        simp [hlt, he2, pairV]
      · simp only [e2, if_false]
        rw [← h4]
        simp
    · intro x hx
      have hx2 : x.born ∈ (es.modify j fun e => { e with key := .int .u32 k, val := .agg #[] }).toList.map (·.born) := List.mem_map.2 ⟨x, hx, rfl⟩
      rw [hb2] at hx2
      obtain ⟨y, hy, hyx⟩ := List.mem_map.1 hx2
      rw [← hyx]
      exact h1.old y hy
    · have : (l.set j (k, v)).map (·.1) = l.map (·.1) := by
        apply List.ext_getElem?
        intro i
        simp only [List.getElem?_map, List.getElem?_set]
        by_cases e2 : j = i
        · subst e2
          have hlt : j < l.length := (List.getElem?_eq_some_iff.1 hj).1
          have hj' : l[j] = (k, u) := Option.some.inj ((List.getElem?_eq_getElem hlt).symm.trans hj)
          simp [hlt, hj']
        · simp [e2]
      rw [this]
      exact h1.nodup
    · intro k'
      rw [look_set k v u k' l j h1.nodup hj, h3 k']
      rfl

/-! ## Going through the keys -/
/-- A map's walker: which of its keys it has handed out. -/
structure Iter (w : World) (it b : Nat) (l : List (Int × Int)) (vs : List Int) : Prop where
  ex : ∃ es clock seen, w.heap[b]? = some (.map es clock) ∧ MapIs es clock l ∧ w.heap[it]? = some (.mapIter (some b) clock seen clock) ∧ ∃ vis : List MapEntry, vis.map (·.key) = vs.map (Value.int .u32) ∧ seen.toList = vis.map (·.born) ∧ (∀ x ∈ vis, x ∈ es.toList) ∧ (vis.map (·.born)).Nodup
theorem Iter.start {w : World} {b : Nat} {es : Array MapEntry} {clock : Nat} {l : List (Int × Int)} (hb : w.heap[b]? = some (.map es clock)) (k : MapIs es clock l) :
    (Instr.range 150 (.map (some b))).run Tryz.prog w = .ok (.pointer (some ⟨w.heap.size, 0, none⟩)) (w.alloc (.mapIter (some b) clock #[] clock)) ∧ Iter (w.alloc (.mapIter (some b) clock #[] clock)) w.heap.size b l [] := by
  have hlt : b < w.heap.size := (Array.getElem?_eq_some_iff.1 hb).1
  refine ⟨run_range_map w 150 38 125 b es clock Tryz.underlying150 hb, ⟨es, clock, #[], ?_, k, (MapKept.heap_alloc w _).1, [], rfl, rfl, by simp, by simp⟩⟩
  exact (Below.heap_alloc w _ b hlt).trans hb
theorem Iter.same {w u : World} {it b : Nat} {l : List (Int × Int)} {vs : List Int} (h : Iter w it b l vs) (e1 : u.heap[b]? = w.heap[b]?) (e2 : u.heap[it]? = w.heap[it]?) : Iter u it b l vs := by
  obtain ⟨es, clock, seen, h1, h2, h3, h4⟩ := h.ex
  exact ⟨es, clock, seen, e1.trans h1, h2, e2.trans h3, h4⟩
theorem Iter.blocks {w : World} {it b : Nat} {l : List (Int × Int)} {vs : List Int} (h : Iter w it b l vs) : ∃ es clock seen, w.heap[b]? = some (.map es clock) ∧ w.heap[it]? = some (.mapIter (some b) clock seen clock) := by
  obtain ⟨es, clock, seen, h1, h2, h3, h4⟩ := h.ex
  exact ⟨es, clock, seen, h1, h3⟩
theorem key_at {es : List MapEntry} {l : List (Int × Int)} (h : es.map (fun e => (e.key, e.val)) = l.map pairV) {e : MapEntry} (he : e ∈ es) : ∃ p ∈ l, e.key = .int .u32 p.1 ∧ e.val = .agg #[] := by
  have : (e.key, e.val) ∈ es.map (fun e => (e.key, e.val)) := List.mem_map.2 ⟨e, he, rfl⟩
  rw [h] at this
  obtain ⟨p, hp, hk⟩ := List.mem_map.1 this
  simp only [pairV, Prod.mk.injEq] at hk
  exact ⟨p, hp, hk.1.symm, hk.2.symm⟩
theorem keys_inj {es : List MapEntry} {l : List (Int × Int)} (h : es.map (fun e => (e.key, e.val)) = l.map pairV) (hn : (l.map (·.1)).Nodup) {x y : MapEntry} (hx : x ∈ es) (hy : y ∈ es) (e : x.key = y.key) : x = y := by
  obtain ⟨i, hi⟩ := List.mem_iff_getElem?.1 hx
  obtain ⟨j, hj⟩ := List.mem_iff_getElem?.1 hy
  have h1 := congrArg (·[i]?) h
  have h2 := congrArg (·[j]?) h
  simp only [List.getElem?_map, hi, hj, Option.map_some] at h1 h2
  obtain ⟨s, hs1, hs2⟩ := Option.map_eq_some_iff.1 h1.symm
  obtain ⟨t, ht1, ht2⟩ := Option.map_eq_some_iff.1 h2.symm
  simp only [pairV, Prod.mk.injEq] at hs2 ht2
  have hst : s.1 = t.1 := by
    have : Value.int .u32 s.1 = Value.int .u32 t.1 := by rw [hs2.1, ht2.1, e]
    injection this
  have hij : i = j := by
    have e1 : (l.map (·.1))[i]? = some s.1 := by simp [hs1]
    have e2 : (l.map (·.1))[j]? = some s.1 := by simp [ht1, hst]
    exact (List.getElem?_inj (List.getElem?_eq_some_iff.1 e1).1 hn).1 (e1.trans e2.symm)
  subst hij
  exact Option.some.inj (hi.symm.trans hj)
/-- The walker's next step: none is left, and all have been handed out; or one more, whichever. -/
theorem Iter.next {w : World} {it b : Nat} {l : List (Int × Int)} {vs : List Int} (h : Iter w it b l vs) (ty : TypeId) :
    ((∀ p ∈ l, p.1 ∈ vs) ∧ (Instr.next (.pointer (some ⟨it, 0, none⟩)) false ty).run Tryz.prog w = .ok (.tuple #[.bool false]) w) ∨
    ∃ (t v : Int) (w' : World), (t, v) ∈ l ∧ t ∉ vs ∧ (Instr.next (.pointer (some ⟨it, 0, none⟩)) false ty).run Tryz.prog w = .ok (.tuple #[.bool true, .int .u32 t, .agg #[]]) w' ∧ Iter w' it b l (vs ++ [t]) ∧ Went (fun k => k = it) w w' ∧ w'.heap.size = w.heap.size ∧ (Instr.entry (.pointer (some ⟨it, 0, none⟩))).run Tryz.prog w' = .ok (.tuple #[.int .u32 t, .agg #[]]) w' := by
  obtain ⟨es, clock, seen, hb, k, hi, vis, hv1, hv2, hv3, hv4⟩ := h.ex
  have hne : it ≠ b := fun e => by rw [e, hb] at hi; cases hi
  have hold := k.old
  have hcont : ∀ x : MapEntry, x ∈ es.toList → (seen.contains x.born = true ↔ x ∈ vis) := by
    intro x hx
    rw [Array.contains_iff_mem, ← Array.mem_toList_iff, hv2, List.mem_map]
    constructor
    · rintro ⟨y, hy, e⟩
      rw [← born_inj k.once (hv3 y hy) hx e]
      exact hy
    · intro hxv
      exact ⟨x, hxv, rfl⟩
  simp only [Instr.next, getObj, Sem.run_bind, Sem.run, hi, hb, Result.andThen, next_test_false seen es clock clock hold (Nat.le_refl _), Bool.false_eq_true, if_false]
  have hL : ∀ x, x ∈ (Array.filter (fun e => !seen.contains e.born) es).toList ↔ x ∈ es.toList ∧ x ∉ vis := by
    intro x
    rw [Array.mem_toList_iff, Array.mem_filter, Array.mem_toList_iff]
    constructor
    · rintro ⟨h1, h2⟩
      refine ⟨h1, fun hxv => ?_⟩
      have := (hcont x (Array.mem_toList_iff.2 h1)).2 hxv
      rw [this] at h2
      cases h2
    · rintro ⟨h1, h2⟩
      refine ⟨h1, ?_⟩
      cases hc : seen.contains x.born with
      | false => rfl
      | true => exact absurd ((hcont x (Array.mem_toList_iff.2 h1)).1 hc) h2
  generalize Array.filter (fun e => !seen.contains e.born) es = L at hL
  have hmem : ∀ x ∈ L.toList, x.born < clock := fun x hx => hold x ((hL x).1 hx).1
  have e1 : L.filter (fun x => decide (x.born < clock)) = L := Array.filter_eq_self.2 (fun x hx => by simpa using hmem x (by simpa using hx))
  have e2 : L.filter (fun x => decide (x.born ≥ clock)) = #[] := by
    rw [Array.filter_eq_empty_iff]
    intro x hx
    have := hmem x (by simpa using hx)
    simp
    omega
  simp only [e1, e2, Array.append_empty]
  by_cases h0 : L.size = 0
  · left
    have : L = #[] := Array.eq_empty_of_size_eq_zero h0
    subst this
    refine ⟨fun p hp => ?_, by simp [choose, Sem.run, Question.forced]⟩
    have hk : pairV p ∈ es.toList.map (fun e => (e.key, e.val)) := by rw [k.pairs]; exact List.mem_map.2 ⟨p, hp, rfl⟩
    obtain ⟨x, hx, hxk⟩ := List.mem_map.1 hk
    simp only [pairV, Prod.mk.injEq] at hxk
    have hxv : x ∈ vis := by
      apply Classical.byContradiction
      intro hn
      have := (hL x).2 ⟨hx, hn⟩
      simp at this
    have : x.key ∈ vis.map (·.key) := List.mem_map.2 ⟨x, hxv, rfl⟩
    rw [hv1, hxk.1] at this
    obtain ⟨u, hu, hue⟩ := List.mem_map.1 this
    injection hue with _ hue
    rw [← hue]
    exact hu
  · right
    have hnem : L.isEmpty = false := by simp [Array.isEmpty, h0]
    simp only [hnem, Bool.false_eq_true, if_false, Array.empty_append, Array.size_map]
    have hch : ∃ (j : Nat) (w1 : World), j < L.size ∧ w1.Alike w ∧ w1.tape = w.tape ∧ (choose (Question.mapNext L.size)).run Tryz.prog w = .ok j w1 := by
      by_cases hf : L.size ≤ 1
      · exact ⟨0, w, by omega, ⟨rfl, rfl, rfl⟩, rfl, by simp [choose, Sem.run, Question.forced, hf]⟩
      · exact ⟨_, w.drew, Nat.mod_lt _ (by omega), ⟨rfl, rfl, rfl⟩, rfl, by
          simp only [choose, Sem.run, Question.forced, decide_eq_true_eq, hf, if_false, Question.cut]
          rfl⟩
    obtain ⟨j, w1, hj, hal, htape, hrun⟩ := hch
    have hjm : L[j] ∈ L.toList := by simp
    obtain ⟨hje, hjv⟩ := (hL _).1 hjm
    obtain ⟨p, hp, hkt, hkv⟩ := key_at k.pairs hje
    have hi1 : w1.heap[it]? = some (.mapIter (some b) clock seen clock) := by rw [hal.1]; exact hi
    have hb1 : w1.heap[b]? = some (.map es clock) := by rw [hal.1]; exact hb
    have hset : ∀ o' : Obj, (setObj it o').run Tryz.prog w1 = .ok () { w1 with heap := w1.heap.setIfInBounds it o' } := fun o' => by
      simp [setObj, Sem.run, hi1]
    have hit' := heap_now (o' := .mapIter (some b) clock (seen.push L[j].born) clock) hi1
    have hb' : ({ w1 with heap := w1.heap.setIfInBounds it (.mapIter (some b) clock (seen.push L[j].born) clock) } : World).heap[b]? = some (.map es clock) := by
      simp only [Array.getElem?_setIfInBounds_ne hne]
      exact hb1
    refine ⟨p.1, p.2, { w1 with heap := w1.heap.setIfInBounds it (.mapIter (some b) clock (seen.push L[j].born) clock) }, hp, fun htv => ?_, ?_, ⟨es, clock, _, hb', k, hit', vis ++ [L[j]], ?_, ?_, ?_, ?_⟩, ?_, ?_, ?_⟩
    · have : Value.int .u32 p.1 ∈ vis.map (·.key) := by rw [hv1]; exact List.mem_map.2 ⟨p.1, htv, rfl⟩
      obtain ⟨y, hy, hyk⟩ := List.mem_map.1 this
      have := keys_inj k.pairs k.nodup (hv3 y hy) hje (by rw [hyk, hkt])
      exact hjv (this ▸ hy)
    · simp only [hrun, Array.getElem?_map, Array.getElem?_eq_getElem hj, Option.map_some, Sem.run_bind, hset, Result.andThen, hkt, hkv]
      rfl
    · simp [hv1, hkt]
    · simp [hv2]
    · intro x hx
      rcases List.mem_append.1 hx with hx | hx
      · exact hv3 x hx
      · simp at hx; subst hx; exact hje
    · rw [List.map_append, List.nodup_append]
      refine ⟨hv4, by simp, fun a ha c hc => ?_⟩
      simp at hc
      subst hc
      obtain ⟨y, hy, rfl⟩ := List.mem_map.1 ha
      intro e
      exact hjv (born_inj k.once (hv3 y hy) hje e ▸ hy)
    · have ht2 := heap_turn (w := w1) (b := it) (o' := .mapIter (some b) clock (seen.push L[j].born) clock)
      refine ⟨hal.2.1, htape, hal.2.2, ?_, fun i hi2 hne2 => ?_⟩
      · rw [← hal.1]; exact ht2.size
      · rw [ht2.block i (by rw [hal.1]; exact hi2) hne2, hal.1]
    · simp [hal.1]
    · have hf : es.find? (·.born == L[j].born) = some L[j] := by rw [← Array.find?_toList]; exact find_born L[j] es.toList k.once hje
      simp only [Instr.entry, getObj, Sem.run_bind, Sem.run, hit', hb', Result.andThen, Array.back?_push, bne_self_eq_false, Bool.false_eq_true, if_false, hf, hkt, hkv]
      rfl
end Go.Proofs.YteickckgljlacaaGreat.Rm

namespace Go.Proofs.YteickckgljlacaaGreat.Rs
open Go Go.RowKit

/-- What a list of pairs tells at a key. -/
def look : List (Int × Int) → Int → Option Int
  | [], _ => none
  | p :: l, k => if p.1 = k then some p.2 else look l k

theorem look_none {k : Int} : ∀ {l : List (Int × Int)}, look l k = none ↔ ∀ p ∈ l, p.1 ≠ k
  | [] => by simp [look]
  | p :: l => by
    have := look_none (k := k) (l := l)
    by_cases h : p.1 = k
    · simp [look, h]
    · simp [look, h, this]
theorem look_append (k : Int) (v : Int) (k' : Int) : ∀ (l : List (Int × Int)), look l k = none → look (l ++ [(k, v)]) k' = if k' = k then some v else look l k'
  | [], _ => by
    by_cases h : k' = k
    · simp [look, h]
    · have h' : ¬ k = k' := fun e => h e.symm
      simp [look, h, h']
  | p :: l, h => by
    have hp : p.1 ≠ k := look_none.1 h p (by simp)
    have hl : look l k = none := look_none.2 fun q hq => look_none.1 h q (by simp [hq])
    have := look_append k v k' l hl
    by_cases e : p.1 = k'
    · have : k' ≠ k := fun x => hp (e.trans x)
      simp [look, e, this]
    · simp [look, e, this]
theorem look_set (k v v0 k' : Int) : ∀ (l : List (Int × Int)) (j : Nat), (l.map (·.1)).Nodup → l[j]? = some (k, v0) → look (l.set j (k, v)) k' = if k' = k then some v else look l k'
  | [], j, _, h => by simp at h
  | p :: l, 0, _, h => by
    obtain rfl : p = (k, v0) := by simpa using h
    by_cases e : k' = k
    · simp [look, e]
    · have e' : ¬ k = k' := fun x => e x.symm
      simp [look, e, e']
  | p :: l, j + 1, hn, h => by
    have h' : l[j]? = some (k, v0) := by simpa using h
    have hn' : (l.map (·.1)).Nodup := (List.nodup_cons.1 (by simpa using hn)).2
    have hp : p.1 ≠ k := fun e => (List.nodup_cons.1 (show (p.1 :: l.map (·.1)).Nodup by simpa using hn)).1 (e ▸ List.mem_map.2 ⟨_, List.mem_of_getElem? h', rfl⟩)
    have := look_set k v v0 k' l j hn' h'
    by_cases e : p.1 = k'
    · have : k' ≠ k := fun x => hp (e.trans x)
      simp [look, e, this]
    · simp [look, e, this]
theorem look_erase (k v0 k' : Int) : ∀ (l : List (Int × Int)) (j : Nat), (l.map (·.1)).Nodup → l[j]? = some (k, v0) → look (l.eraseIdx j) k' = if k' = k then none else look l k'
  | [], j, _, h => by simp at h
  | p :: l, 0, hn, h => by
    obtain rfl : p = (k, v0) := by simpa using h
    have hk := (List.nodup_cons.1 (show (k :: l.map (·.1)).Nodup by simpa using hn)).1
    by_cases e : k' = k
    · subst e
      simp only [List.eraseIdx_cons_zero, if_true]
      exact look_none.2 fun q hq e => hk (List.mem_map.2 ⟨q, hq, e⟩)
    · have e' : ¬ k = k' := fun x => e x.symm
      simp [look, e, e']
  | p :: l, j + 1, hn, h => by
    have h' : l[j]? = some (k, v0) := by simpa using h
    have hn' : (l.map (·.1)).Nodup := (List.nodup_cons.1 (by simpa using hn)).2
    have hp : p.1 ≠ k := fun e => (List.nodup_cons.1 (show (p.1 :: l.map (·.1)).Nodup by simpa using hn)).1 (e ▸ List.mem_map.2 ⟨_, List.mem_of_getElem? h', rfl⟩)
    have := look_erase k v0 k' l j hn' h'
    by_cases e : p.1 = k'
    · have : k' ≠ k := fun x => hp (e.trans x)
      simp [look, e, this]
    · simp [look, e, this]

def pairV (p : Int × Int) : Value × Value := (.int .u32 p.1, .int .i64 p.2)

theorem find_spec (k : Int) : ∀ (es : List MapEntry) (l : List (Int × Int)) (i : Nat), es.map (fun e => (e.key, e.val)) = l.map pairV →
    (Instr.findNow (.int .u32) (.int .u32 k) es i = some none ∧ look l k = none) ∨ ∃ (j : Nat) (v : Int), Instr.findNow (.int .u32) (.int .u32 k) es i = some (some (i + j, .int .i64 v)) ∧ l[j]? = some (k, v) ∧ look l k = some v
  | [], l, i, h => by
    cases l with
    | nil => exact .inl ⟨rfl, rfl⟩
    | cons p l => simp at h
  | e :: es, l, i, h => by
    cases l with
    | nil => simp at h
    | cons p l =>
      simp only [List.map_cons, List.cons.injEq, pairV, Prod.mk.injEq] at h
      obtain ⟨⟨h1, h2⟩, h3⟩ := h
      by_cases c : p.1 = k
      · refine .inr ⟨0, p.2, ?_, by simp [← c], by simp [look, c]⟩
        simp [Instr.findNow, h1, h2, Instr.sameNow, c]
      · have c' : (k == p.1) = false := by
          rw [beq_eq_false_iff_ne]
          exact fun x => c x.symm
        rcases find_spec k es l (i + 1) h3 with ⟨a, b⟩ | ⟨j, v, a, b, d⟩
        · exact .inl ⟨by simp [Instr.findNow, h1, Instr.sameNow, c', a], by simp [look, c, b]⟩
        · refine .inr ⟨j + 1, v, ?_, by simpa using b, by simp [look, c, d]⟩
          simp [Instr.findNow, h1, Instr.sameNow, c', a]
          omega


theorem heap_turn {w : World} {b : Nat} {o' : Obj} : Went (fun k => k = b) w { w with heap := w.heap.setIfInBounds b o' } := by
  refine ⟨rfl, rfl, rfl, by simp, fun i _ hne => ?_⟩
  simp [Array.getElem?_setIfInBounds_ne (fun e => hne e.symm)]
theorem heap_now {w : World} {b : Nat} {o o' : Obj} (hb : w.heap[b]? = some o) : ({ w with heap := w.heap.setIfInBounds b o' } : World).heap[b]? = some o' := by
  have hlt : b < w.heap.size := (Array.getElem?_eq_some_iff.1 hb).1
  simp [hlt]
/-- The entries hold these pairs, each key once. -/
structure MapIs (es : Array MapEntry) (clock : Nat) (l : List (Int × Int)) : Prop where
  pairs : es.toList.map (fun e => (e.key, e.val)) = l.map pairV
  old : ∀ x ∈ es.toList, x.born < clock
  once : (es.toList.map (·.born)).Nodup
  nodup : (l.map (·.1)).Nodup
/-- The map in block b tells P; it has at most m keys. -/
def IsMap (w : World) (b : Nat) (P : Int → Option Int) (m : Nat) : Prop :=
  ∃ (es : Array MapEntry) (clock : Nat) (l : List (Int × Int)), w.heap[b]? = some (.map es clock) ∧ MapIs es clock l ∧ (∀ k, look l k = P k) ∧ l.length ≤ m
section
variable {w u : World} {b m : Nat} {P P' : Int → Option Int}
theorem IsMap.lt (h : IsMap w b P m) : b < w.heap.size := by
  obtain ⟨es, clock, l, h, _⟩ := h
  exact (Array.getElem?_eq_some_iff.1 h).1
theorem IsMap.same (h : IsMap w b P m) (e : u.heap[b]? = w.heap[b]?) : IsMap u b P m := by
  obtain ⟨es, clock, l, h, k⟩ := h
  exact ⟨es, clock, l, e.trans h, k⟩
theorem IsMap.congr (h : IsMap w b P m) (e : ∀ k, P k = P' k) : IsMap w b P' m := by
  obtain ⟨es, clock, l, h, k2, k3, k4⟩ := h
  exact ⟨es, clock, l, h, k2, fun k => (k3 k).trans (e k), k4⟩
theorem IsMap.more (h : IsMap w b P m) {m' : Nat} (hm : m ≤ m') : IsMap w b P m' := by
  obtain ⟨es, clock, l, h, k2, k3, k4⟩ := h
  exact ⟨es, clock, l, h, k2, k3, Nat.le_trans k4 hm⟩
theorem IsMap.fresh (w : World) : IsMap (w.alloc (.map #[] 0)) w.heap.size (fun _ => none) 0 :=
  ⟨#[], 0, [], (MapKept.heap_alloc w _).1, ⟨rfl, by simp, by simp, by simp⟩, fun _ => rfl, Nat.le_refl _⟩
end

/-- A function with one value turned. -/
def at1 {α : Type} (P : Int → α) (k : Int) (v : α) : Int → α := fun i => if i = k then v else P i

theorem isKey (k : Int) : MapKept.IsKey (.int .u32) (.int .u32 k) := by simp [MapKept.IsKey]
theorem zero3 (w : World) : (zeroValue 3).run Tryz.prog w = .ok (.int .i64 0) w := by kernel_rfl

theorem map_look {w : World} {b m : Nat} {P : Int → Option Int} (h : IsMap w b P m) (k : Int) :
    (Instr.lookup 106 (.map (some b)) (.int .u32 k) false).run Tryz.prog w = .ok (.int .i64 ((P k).getD 0)) w := by
  obtain ⟨es, clock, l, hb, h1, h3, _⟩ := h
  have hc := MapKept.run_checkKey (w := w) Tryz.underlying38 (isKey k) es.isEmpty 9999
  rcases find_spec k es.toList l 0 h1.pairs with ⟨hf, hn⟩ | ⟨j, v, hf, hj, hl⟩
  · have hf' := MapKept.run_findKey (w := w) Tryz.underlying38 hf
    rw [h3 k] at hn
    simp only [Instr.lookup, Sem.run_bind, run_underlying Tryz.underlying106, Result.andThen_ok, MapKept.run_getObj_map hb, Sem.run_pure, hc, hf', zero3, hn]
    rfl
  · have hf' := MapKept.run_findKey (w := w) Tryz.underlying38 hf
    rw [h3 k] at hl
    simp only [Instr.lookup, Sem.run_bind, run_underlying Tryz.underlying106, Result.andThen_ok, MapKept.run_getObj_map hb, Sem.run_pure, hc, hf', hl]
    rfl
theorem pairs_len {es : List MapEntry} {l : List (Int × Int)} (h : es.map (fun e => (e.key, e.val)) = l.map pairV) : es.length = l.length := by
  have := congrArg List.length h
  simpa using this
theorem map_put {w : World} {b m : Nat} {P : Int → Option Int} (h : IsMap w b P m) (k v : Int) :
    ∃ w', (Instr.mapUpdate 106 (.map (some b)) (.int .u32 k) (.int .i64 v)).run Tryz.prog w = .ok () w' ∧ IsMap w' b (at1 P k (some v)) (m + 1) ∧ Went (fun k => k = b) w w' := by
  obtain ⟨es, clock, l, hb, h1, h3, h4⟩ := h
  have hc := MapKept.run_checkKey (w := w) Tryz.underlying38 (isKey k) false 9999
  rcases find_spec k es.toList l 0 h1.pairs with ⟨hf, hn⟩ | ⟨j, u, hf, hj, hl⟩
  · have hf' := MapKept.run_findKey (w := w) Tryz.underlying38 hf
    refine ⟨{ w with heap := w.heap.setIfInBounds b (.map (es.push { key := .int .u32 k, val := .int .i64 v, born := clock }) (clock + 1)) }, ?_, ⟨_, _, l ++ [(k, v)], heap_now hb, ⟨?_, ?_, ?_, ?_⟩, ?_, by simp; omega⟩, heap_turn⟩
    · simp only [Instr.mapUpdate, Sem.run_bind, run_underlying Tryz.underlying106, Result.andThen_ok, MapKept.run_getObj_map hb, hc, hf']
      exact MapKept.run_setObj_map _ hb
    · simp [h1.pairs, pairV]
    · intro x hx
      simp at hx
      rcases hx with hx | rfl
      · have := h1.old x (by simpa using hx); omega
      · simp
    · rw [Array.toList_push, List.map_append, List.nodup_append]
      refine ⟨h1.once, by simp, fun a ha c hc' => ?_⟩
      simp at hc'
      subst hc'
      obtain ⟨x, hx, rfl⟩ := List.mem_map.1 ha
      have := h1.old x hx
      omega
    · rw [List.map_append, List.nodup_append]
      refine ⟨h1.nodup, by simp, fun a ha c hc' => ?_⟩
      simp at hc'
      subst hc'
      obtain ⟨p, hp, rfl⟩ := List.mem_map.1 ha
      exact look_none.1 hn p hp
    · intro k'
      rw [look_append k v k' l hn, h3 k']
      rfl
  · have hf' := MapKept.run_findKey (w := w) Tryz.underlying38 hf
    rw [Nat.zero_add] at hf'
    have hjk : (es[j]?).map (fun e => (e.key, e.val)) = some (pairV (k, u)) := by
      have h4 := congrArg (·[j]?) h1.pairs
      simp only [List.getElem?_map, hj, Option.map_some] at h4
      simpa using h4
    obtain ⟨e, he, hek⟩ := Option.map_eq_some_iff.1 hjk
    simp only [pairV, Prod.mk.injEq] at hek
    have hks := MapKept.run_keyThatStays (P := Tryz.prog) (w := w) (isKey k)
    have hb2 : (es.modify j fun e => { e with key := .int .u32 k, val := .int .i64 v }).toList.map (·.born) = es.toList.map (·.born) := by
      rw [Array.toList_modify]
      apply List.ext_getElem?
      intro i
      simp only [List.getElem?_map, List.getElem?_modify]
      by_cases e2 : j = i
      · subst e2; simp only [if_true]; cases es.toList[j]? <;> rfl
      · simp [e2]
    refine ⟨{ w with heap := w.heap.setIfInBounds b (.map (es.modify j fun e => { e with key := .int .u32 k, val := .int .i64 v }) clock) }, ?_, ⟨_, _, l.set j (k, v), heap_now hb, ⟨?_, ?_, by rw [hb2]; exact h1.once, ?_⟩, ?_, by simp; omega⟩, heap_turn⟩
    · simp only [Instr.mapUpdate, Sem.run_bind, run_underlying Tryz.underlying106, Result.andThen_ok, MapKept.run_getObj_map hb, hc, hf', he, Option.map_some, Option.getD_some, hek.1, hks]
      exact MapKept.run_setObj_map _ hb
    · rw [Array.toList_modify]
      apply List.ext_getElem?
      intro i
      have h4 := congrArg (·[i]?) h1.pairs
      simp only [List.getElem?_map] at h4
      simp only [List.getElem?_map, List.getElem?_modify, List.getElem?_set]
      by_cases e2 : j = i
      · subst e2
        have hlt : j < l.length := (List.getElem?_eq_some_iff.1 hj).1
        have he2 : es.toList[j]? = some e := by simpa using he
        simp [hlt, he2, pairV]
      · simp only [e2, if_false]
        rw [← h4]
        simp
    · intro x hx
      have hx2 : x.born ∈ (es.modify j fun e => { e with key := .int .u32 k, val := .int .i64 v }).toList.map (·.born) := List.mem_map.2 ⟨x, hx, rfl⟩
      rw [hb2] at hx2
      obtain ⟨y, hy, hyx⟩ := List.mem_map.1 hx2
      rw [← hyx]
      exact h1.old y hy
    · have : (l.set j (k, v)).map (·.1) = l.map (·.1) := by
        apply List.ext_getElem?
        intro i
        simp only [List.getElem?_map, List.getElem?_set]
        by_cases e2 : j = i
        · subst e2
          have hlt : j < l.length := (List.getElem?_eq_some_iff.1 hj).1
          have hj' : l[j] = (k, u) := Option.some.inj ((List.getElem?_eq_getElem hlt).symm.trans hj)
          simp [hlt, hj']
        · simp [e2]
      rw [this]
      exact h1.nodup
    · intro k'
      rw [look_set k v u k' l j h1.nodup hj, h3 k']
      rfl

theorem map_eraseIdx' {α β : Type} (f : α → β) : ∀ (l : List α) (j : Nat), (l.eraseIdx j).map f = (l.map f).eraseIdx j
  | [], j => by simp
  | x :: l, 0 => by simp
  | x :: l, j + 1 => by simp [map_eraseIdx' f l j]
theorem map_del {w : World} {b m : Nat} {P : Int → Option Int} (h : IsMap w b P m) (k : Int) :
    ∃ w', (∀ ty : TypeId, (Builtin.delete_ #[106, 38] ty #[.map (some b), .int .u32 k]).run Tryz.prog w = .ok (.tuple #[]) w') ∧ IsMap w' b (at1 P k none) m ∧ Went (fun k => k = b) w w' := by
  obtain ⟨es, clock, l, hb, h1, h3, h4⟩ := h
  have hc := MapKept.run_checkKey (w := w) Tryz.underlying38 (isKey k) es.isEmpty 9999
  rcases find_spec k es.toList l 0 h1.pairs with ⟨hf, hn⟩ | ⟨j, u, hf, hj, hl⟩
  · have hf' := MapKept.run_findKey (w := w) Tryz.underlying38 hf
    refine ⟨{ w with heap := w.heap.setIfInBounds b (.map es clock) }, ?_, ⟨_, _, l, heap_now hb, h1, ?_, h4⟩, heap_turn⟩
    · intro ty
      simp only [Builtin.delete_, List.getElem?_toArray, List.getElem?_cons_zero, List.getElem?_cons_succ, Sem.run_bind, run_underlying Tryz.underlying106, Result.andThen_ok, MapKept.run_getObj_map hb, hc, hf', MapKept.run_setObj_map _ hb]
      rfl
    · intro k'
      by_cases e : k' = k
      · subst e
        simp [at1, hn]
      · simp [at1, e, h3]
  · have hf' := MapKept.run_findKey (w := w) Tryz.underlying38 hf
    rw [Nat.zero_add] at hf'
    have hjl : j < es.size := by
      have h4 := pairs_len h1.pairs
      rw [← Array.length_toList, h4]
      exact (List.getElem?_eq_some_iff.1 hj).1
    have her : (es.eraseIdxIfInBounds j).toList = es.toList.eraseIdx j := by
      simp [Array.eraseIdxIfInBounds, hjl]
    refine ⟨{ w with heap := w.heap.setIfInBounds b (.map (es.eraseIdxIfInBounds j) clock) }, ?_, ⟨_, _, l.eraseIdx j, heap_now hb, ⟨?_, ?_, ?_, ?_⟩, ?_, ?_⟩, heap_turn⟩
    · intro ty
      simp only [Builtin.delete_, List.getElem?_toArray, List.getElem?_cons_zero, List.getElem?_cons_succ, Sem.run_bind, run_underlying Tryz.underlying106, Result.andThen_ok, MapKept.run_getObj_map hb, hc, hf', MapKept.run_setObj_map _ hb]
      rfl
    · rw [her, map_eraseIdx', map_eraseIdx', h1.pairs]
    · intro x hx
      rw [her] at hx
      exact h1.old x (List.mem_of_mem_eraseIdx hx)
    · rw [her, map_eraseIdx']
      exact h1.once.sublist (List.eraseIdx_sublist _ _)
    · rw [map_eraseIdx']
      exact h1.nodup.sublist (List.eraseIdx_sublist _ _)
    · intro k'
      rw [look_erase k u k' l j h1.nodup hj, h3 k']
      rfl
    · have := List.length_eraseIdx_le l j
      omega

/-! ## Going through the keys -/
/-- A map's walker: which of its keys it has handed out. -/
structure Iter (w : World) (it b : Nat) (l : List (Int × Int)) (vs : List Int) : Prop where
  ex : ∃ es clock seen, w.heap[b]? = some (.map es clock) ∧ MapIs es clock l ∧ w.heap[it]? = some (.mapIter (some b) clock seen clock) ∧ ∃ vis : List MapEntry, vis.map (·.key) = vs.map (Value.int .u32) ∧ seen.toList = vis.map (·.born) ∧ (∀ x ∈ vis, x ∈ es.toList) ∧ (vis.map (·.born)).Nodup
theorem Iter.start {w : World} {b : Nat} {es : Array MapEntry} {clock : Nat} {l : List (Int × Int)} (hb : w.heap[b]? = some (.map es clock)) (k : MapIs es clock l) :
    (Instr.range 106 (.map (some b))).run Tryz.prog w = .ok (.pointer (some ⟨w.heap.size, 0, none⟩)) (w.alloc (.mapIter (some b) clock #[] clock)) ∧ Iter (w.alloc (.mapIter (some b) clock #[] clock)) w.heap.size b l [] := by
  have hlt : b < w.heap.size := (Array.getElem?_eq_some_iff.1 hb).1
  refine ⟨run_range_map w 106 38 3 b es clock Tryz.underlying106 hb, ⟨es, clock, #[], ?_, k, (MapKept.heap_alloc w _).1, [], rfl, rfl, by simp, by simp⟩⟩
  exact (Below.heap_alloc w _ b hlt).trans hb
theorem Iter.same {w u : World} {it b : Nat} {l : List (Int × Int)} {vs : List Int} (h : Iter w it b l vs) (e1 : u.heap[b]? = w.heap[b]?) (e2 : u.heap[it]? = w.heap[it]?) : Iter u it b l vs := by
  obtain ⟨es, clock, seen, h1, h2, h3, h4⟩ := h.ex
  exact ⟨es, clock, seen, e1.trans h1, h2, e2.trans h3, h4⟩
theorem Iter.blocks {w : World} {it b : Nat} {l : List (Int × Int)} {vs : List Int} (h : Iter w it b l vs) : ∃ es clock seen, w.heap[b]? = some (.map es clock) ∧ w.heap[it]? = some (.mapIter (some b) clock seen clock) := by
  obtain ⟨es, clock, seen, h1, h2, h3, h4⟩ := h.ex
  exact ⟨es, clock, seen, h1, h3⟩
theorem key_at {es : List MapEntry} {l : List (Int × Int)} (h : es.map (fun e => (e.key, e.val)) = l.map pairV) {e : MapEntry} (he : e ∈ es) : ∃ p ∈ l, e.key = .int .u32 p.1 ∧ e.val = .int .i64 p.2 := by
  have : (e.key, e.val) ∈ es.map (fun e => (e.key, e.val)) := List.mem_map.2 ⟨e, he, rfl⟩
  rw [h] at this
  obtain ⟨p, hp, hk⟩ := List.mem_map.1 this
  simp only [pairV, Prod.mk.injEq] at hk
  exact ⟨p, hp, hk.1.symm, hk.2.symm⟩
theorem keys_inj {es : List MapEntry} {l : List (Int × Int)} (h : es.map (fun e => (e.key, e.val)) = l.map pairV) (hn : (l.map (·.1)).Nodup) {x y : MapEntry} (hx : x ∈ es) (hy : y ∈ es) (e : x.key = y.key) : x = y := by
  obtain ⟨i, hi⟩ := List.mem_iff_getElem?.1 hx
  obtain ⟨j, hj⟩ := List.mem_iff_getElem?.1 hy
  have h1 := congrArg (·[i]?) h
  have h2 := congrArg (·[j]?) h
  simp only [List.getElem?_map, hi, hj, Option.map_some] at h1 h2
  obtain ⟨s, hs1, hs2⟩ := Option.map_eq_some_iff.1 h1.symm
  obtain ⟨t, ht1, ht2⟩ := Option.map_eq_some_iff.1 h2.symm
  simp only [pairV, Prod.mk.injEq] at hs2 ht2
  have hst : s.1 = t.1 := by
    have : Value.int .u32 s.1 = Value.int .u32 t.1 := by rw [hs2.1, ht2.1, e]
    injection this
  have hij : i = j := by
    have e1 : (l.map (·.1))[i]? = some s.1 := by simp [hs1]
    have e2 : (l.map (·.1))[j]? = some s.1 := by simp [ht1, hst]
    exact (List.getElem?_inj (List.getElem?_eq_some_iff.1 e1).1 hn).1 (e1.trans e2.symm)
  subst hij
  exact Option.some.inj (hi.symm.trans hj)
/-- The walker's next step: none is left, and all have been handed out; or one more, whichever. -/
theorem Iter.next {w : World} {it b : Nat} {l : List (Int × Int)} {vs : List Int} (h : Iter w it b l vs) (ty : TypeId) :
    ((∀ p ∈ l, p.1 ∈ vs) ∧ (Instr.next (.pointer (some ⟨it, 0, none⟩)) false ty).run Tryz.prog w = .ok (.tuple #[.bool false]) w) ∨
    ∃ (t v : Int) (w' : World), (t, v) ∈ l ∧ t ∉ vs ∧ (Instr.next (.pointer (some ⟨it, 0, none⟩)) false ty).run Tryz.prog w = .ok (.tuple #[.bool true, .int .u32 t, .int .i64 v]) w' ∧ Iter w' it b l (vs ++ [t]) ∧ Went (fun k => k = it) w w' ∧ w'.heap.size = w.heap.size ∧ (Instr.entry (.pointer (some ⟨it, 0, none⟩))).run Tryz.prog w' = .ok (.tuple #[.int .u32 t, .int .i64 v]) w' := by
  obtain ⟨es, clock, seen, hb, k, hi, vis, hv1, hv2, hv3, hv4⟩ := h.ex
  have hne : it ≠ b := fun e => by rw [e, hb] at hi; cases hi
  have hold := k.old
  have hcont : ∀ x : MapEntry, x ∈ es.toList → (seen.contains x.born = true ↔ x ∈ vis) := by
    intro x hx
    rw [Array.contains_iff_mem, ← Array.mem_toList_iff, hv2, List.mem_map]
    constructor
    · rintro ⟨y, hy, e⟩
      rw [← born_inj k.once (hv3 y hy) hx e]
      exact hy
    · intro hxv
      exact ⟨x, hxv, rfl⟩
  simp only [Instr.next, getObj, Sem.run_bind, Sem.run, hi, hb, Result.andThen, next_test_false seen es clock clock hold (Nat.le_refl _), Bool.false_eq_true, if_false]
  have hL : ∀ x, x ∈ (Array.filter (fun e => !seen.contains e.born) es).toList ↔ x ∈ es.toList ∧ x ∉ vis := by
    intro x
    rw [Array.mem_toList_iff, Array.mem_filter, Array.mem_toList_iff]
    constructor
    · rintro ⟨h1, h2⟩
      refine ⟨h1, fun hxv => ?_⟩
      have := (hcont x (Array.mem_toList_iff.2 h1)).2 hxv
      rw [this] at h2
      cases h2
    · rintro ⟨h1, h2⟩
      refine ⟨h1, ?_⟩
      cases hc : seen.contains x.born with
      | false => rfl
      | true => exact absurd ((hcont x (Array.mem_toList_iff.2 h1)).1 hc) h2
  generalize Array.filter (fun e => !seen.contains e.born) es = L at hL
  have hmem : ∀ x ∈ L.toList, x.born < clock := fun x hx => hold x ((hL x).1 hx).1
  have e1 : L.filter (fun x => decide (x.born < clock)) = L := Array.filter_eq_self.2 (fun x hx => by simpa using hmem x (by simpa using hx))
  have e2 : L.filter (fun x => decide (x.born ≥ clock)) = #[] := by
    rw [Array.filter_eq_empty_iff]
    intro x hx
    have := hmem x (by simpa using hx)
    simp
    omega
  simp only [e1, e2, Array.append_empty]
  by_cases h0 : L.size = 0
  · left
    have : L = #[] := Array.eq_empty_of_size_eq_zero h0
    subst this
    refine ⟨fun p hp => ?_, by simp [choose, Sem.run, Question.forced]⟩
    have hk : pairV p ∈ es.toList.map (fun e => (e.key, e.val)) := by rw [k.pairs]; exact List.mem_map.2 ⟨p, hp, rfl⟩
    obtain ⟨x, hx, hxk⟩ := List.mem_map.1 hk
    simp only [pairV, Prod.mk.injEq] at hxk
    have hxv : x ∈ vis := by
      apply Classical.byContradiction
      intro hn
      have := (hL x).2 ⟨hx, hn⟩
      simp at this
    have : x.key ∈ vis.map (·.key) := List.mem_map.2 ⟨x, hxv, rfl⟩
    rw [hv1, hxk.1] at this
    obtain ⟨u, hu, hue⟩ := List.mem_map.1 this
    injection hue with _ hue
    rw [← hue]
    exact hu
  · right
    have hnem : L.isEmpty = false := by simp [Array.isEmpty, h0]
    simp only [hnem, Bool.false_eq_true, if_false, Array.empty_append, Array.size_map]
    have hch : ∃ (j : Nat) (w1 : World), j < L.size ∧ w1.Alike w ∧ w1.tape = w.tape ∧ (choose (Question.mapNext L.size)).run Tryz.prog w = .ok j w1 := by
      by_cases hf : L.size ≤ 1
      · exact ⟨0, w, by omega, ⟨rfl, rfl, rfl⟩, rfl, by simp [choose, Sem.run, Question.forced, hf]⟩
      · exact ⟨_, w.drew, Nat.mod_lt _ (by omega), ⟨rfl, rfl, rfl⟩, rfl, by
          simp only [choose, Sem.run, Question.forced, decide_eq_true_eq, hf, if_false, Question.cut]
          rfl⟩
    obtain ⟨j, w1, hj, hal, htape, hrun⟩ := hch
    have hjm : L[j] ∈ L.toList := by simp
    obtain ⟨hje, hjv⟩ := (hL _).1 hjm
    obtain ⟨p, hp, hkt, hkv⟩ := key_at k.pairs hje
    have hi1 : w1.heap[it]? = some (.mapIter (some b) clock seen clock) := by rw [hal.1]; exact hi
    have hb1 : w1.heap[b]? = some (.map es clock) := by rw [hal.1]; exact hb
    have hset : ∀ o' : Obj, (setObj it o').run Tryz.prog w1 = .ok () { w1 with heap := w1.heap.setIfInBounds it o' } := fun o' => by
      simp [setObj, Sem.run, hi1]
    have hit' := heap_now (o' := .mapIter (some b) clock (seen.push L[j].born) clock) hi1
    have hb' : ({ w1 with heap := w1.heap.setIfInBounds it (.mapIter (some b) clock (seen.push L[j].born) clock) } : World).heap[b]? = some (.map es clock) := by
      simp only [Array.getElem?_setIfInBounds_ne hne]
      exact hb1
    refine ⟨p.1, p.2, { w1 with heap := w1.heap.setIfInBounds it (.mapIter (some b) clock (seen.push L[j].born) clock) }, hp, fun htv => ?_, ?_, ⟨es, clock, _, hb', k, hit', vis ++ [L[j]], ?_, ?_, ?_, ?_⟩, ?_, ?_, ?_⟩
    · have : Value.int .u32 p.1 ∈ vis.map (·.key) := by rw [hv1]; exact List.mem_map.2 ⟨p.1, htv, rfl⟩
      obtain ⟨y, hy, hyk⟩ := List.mem_map.1 this
      have := keys_inj k.pairs k.nodup (hv3 y hy) hje (by rw [hyk, hkt])
      exact hjv (this ▸ hy)
    · simp only [hrun, Array.getElem?_map, Array.getElem?_eq_getElem hj, Option.map_some, Sem.run_bind, hset, Result.andThen, hkt, hkv]
      rfl
    · simp [hv1, hkt]
    · simp [hv2]
    · intro x hx
      rcases List.mem_append.1 hx with hx | hx
      · exact hv3 x hx
      · simp at hx; subst hx; exact hje
    · rw [List.map_append, List.nodup_append]
      refine ⟨hv4, by simp, fun a ha c hc => ?_⟩
      simp at hc
      subst hc
      obtain ⟨y, hy, rfl⟩ := List.mem_map.1 ha
      intro e
      exact hjv (born_inj k.once (hv3 y hy) hje e ▸ hy)
    · have ht2 := heap_turn (w := w1) (b := it) (o' := .mapIter (some b) clock (seen.push L[j].born) clock)
      refine ⟨hal.2.1, htape, hal.2.2, ?_, fun i hi2 hne2 => ?_⟩
      · rw [← hal.1]; exact ht2.size
      · rw [ht2.block i (by rw [hal.1]; exact hi2) hne2, hal.1]
    · simp [hal.1]
    · have hf : es.find? (·.born == L[j].born) = some L[j] := by rw [← Array.find?_toList]; exact find_born L[j] es.toList k.once hje
      simp only [Instr.entry, getObj, Sem.run_bind, Sem.run, hit', hb', Result.andThen, Array.back?_push, bne_self_eq_false, Bool.false_eq_true, if_false, hf, hkt, hkv]
      rfl
end Go.Proofs.YteickckgljlacaaGreat.Rs

namespace Go.Proofs.YteickckgljlacaaGreat.Rs
open Go Go.RowKit Go.Shelf
attribute [local go_sem] Oper.semAt_some

theorem nodup_len : ∀ (a b : List Int), a.Nodup → (∀ x ∈ a, x ∈ b) → a.length ≤ b.length
  | [], b, _, _ => Nat.zero_le _
  | x :: a, b, hn, h => by
    have hx : x ∈ b := h x (by simp)
    have hxa : x ∉ a := (List.nodup_cons.1 hn).1
    have := nodup_len a (b.erase x) (List.nodup_cons.1 hn).2 fun y hy => (List.mem_erase_of_ne (show y ≠ x from fun e => hxa (e ▸ hy))).2 (h y (by simp [hy]))
    rw [List.length_erase_of_mem hx] at this
    have : 0 < b.length := List.length_pos_of_mem hx
    simp only [List.length_cons]
    omega
theorem grown_of_went {w w' : World} {r : Nat} (h : Went (fun k => k = r) w w') : w.grownBy w' (some r) :=
  ⟨h.os, h.tape, h.output, h.size, fun k hk hne => h.block k hk fun e => hne (by rw [e])⟩
theorem look_some {k : Int} : ∀ {l : List (Int × Int)}, (look l k).isSome = true ↔ ∃ p ∈ l, p.1 = k
  | [] => by simp [look]
  | p :: l => by
    have := look_some (k := k) (l := l)
    by_cases h : p.1 = k
    · simp [look, h]
    · simp [look, h, this]

/-- What the keys of P are. -/
def Keys (P : Int → Option Int) (xs : List Int) : Prop := xs.Nodup ∧ ∀ x, x ∈ xs ↔ (P x).isSome = true

/-- The map that a value names: none tells nothing. -/
def MapV (w : World) (mb : Option Nat) (P : Int → Option Int) (m : Nat) : Prop :=
  match mb with
  | none => ∀ k, P k = none
  | some b => IsMap w b P m
theorem MapV.kept {w u : World} {mb : Option Nat} {P : Int → Option Int} {m : Nat} (h : MapV w mb P m) (e : ∀ b, mb = some b → u.heap[b]? = w.heap[b]?) : MapV u mb P m := by
  cases mb with
  | none => exact h
  | some b => exact IsMap.same h (e b rfl)
theorem MapV.lt {w : World} {mb : Option Nat} {P : Int → Option Int} {m : Nat} (h : MapV w mb P m) : ∀ b, mb = some b → b < w.heap.size := by
  rintro b rfl
  exact IsMap.lt h

theorem info29 : (Tryz.prog.info? 38).map (fun i => (i.zero, i.size, i.bytes)) = some (some (.int .u32 0), 1, 4) := by kernel_rfl

end Go.Proofs.YteickckgljlacaaGreat.Rs

namespace Go.Proofs.YteickckgljlacaaGreat.Rm
open Rs (nodup_len grown_of_went Went)
open Go Go.RowKit Go.Shelf
attribute [local go_sem] Oper.semAt_some

theorem look_some {k : Int} : ∀ {l : List (Int × Int)}, (look l k).isSome = true ↔ ∃ p ∈ l, p.1 = k
  | [] => by simp [look]
  | p :: l => by
    have := look_some (k := k) (l := l)
    by_cases h : p.1 = k
    · simp [look, h]
    · simp [look, h, this]

/-- What the keys of P are. -/
def Keys (P : Int → Option Int) (xs : List Int) : Prop := xs.Nodup ∧ ∀ x, x ∈ xs ↔ (P x).isSome = true

set_option maxRecDepth 100000 in
set_option maxHeartbeats 2000000 in
theorem keys1_in (n : Nat) (hn : 1 ≤ n) (l Bm b m : Nat) (P : Int → Option Int) (J Jx : List Int → World → Prop)
    (hY : ∀ pre x W, J pre W → pre.length < m → YieldAt Fence.wide (n - 1) Tryz.prog l #[.int .u32 x] W fun e W' =>
      (e = .returned (.bool true) ∧ J (pre ++ [x]) W' ∧ KeepsWalks W W') ∨ (e = .returned (.bool false) ∧ Jx (pre ++ [x]) W'))
    (W : World) (hJ : AbidesFrom W.heap.size J) (hm : W.cell? ⟨Bm, 0, none⟩ = some (.map (some b))) (hmap : IsMap W b P m) (h0 : J [] W) :
    CallsIn Fence.wide n Tryz.prog 91 #[.func (.yield l) #[] #[], .pointer (some ⟨Bm, 0, none⟩)] W fun e W' => (∃ v, e = .returned v) ∧
      ((∃ ys, Keys P ys ∧ J ys W') ∨ (∃ pre, True ∧ Jx pre W')) := by
  obtain ⟨es, clock, ps, hb, k, hP, hlen⟩ := hmap
  obtain ⟨hr, hI0⟩ := Iter.start hb k
  refine callsIn_of_wp Tryz.func91 rfl trivial ?_ rfl
  simp only [Tryz.ntmps91, List.size_toArray, List.length_cons, List.length_nil, Nat.reduceAdd, Nat.reduceSub, Array.replicate_succ, Array.replicate_zero, List.push_toArray, List.append_toArray, List.nil_append, List.cons_append]
  gi_wp2
  have hJ0 : J [] (W.alloc (.mapIter (some b) clock #[] clock)) := hJ [] W _ none h0 (World.grownBy_alloc W _ none) (fun r e => by cases e)
  obtain ⟨it, hit⟩ : ∃ it, it = W.heap.size := ⟨_, rfl⟩
  rw [← hit] at hI0 ⊢
  have hitA : Aside (W.heap.size ≤ it) := Nat.le_of_eq hit.symm
  clear hr hit
  generalize W.alloc (.mapIter (some b) clock #[] clock) = w0 at hI0 hJ0 ⊢
  gi_loopg [3] (ps.length + 1) (fun g _ wr => ∃ vs : List Int, vs.length + g = ps.length + 1 ∧ Aside (vs.Nodup) ∧ Aside (∀ x ∈ vs, x ∈ ps.map (·.1)) ∧ Iter wr it b ps vs ∧ Aside (J vs wr))
  case atStart => exact ⟨[], by simp, by simp [Aside], by simp [Aside], hI0, hJ0⟩
  case round =>
    clear hI0 hJ0
    obtain ⟨vs, hg, hvn, hvs, hI, hJs⟩ := hrel
    have hJs' : J vs wr := hJs.out
    rcases hI.next 0 with ⟨hall, hnx⟩ | ⟨t, v, w2, htl, htv, hnx, hI2, hw2, hs2, hen⟩
    · gi_wp2
      go_end0
      refine ⟨⟨_, rfl⟩, .inl ⟨vs, ⟨hvn.out, fun x => ?_⟩, hJs'⟩⟩
      rw [← hP x, look_some]
      constructor
      · intro hx
        obtain ⟨p, hp, e⟩ := List.mem_map.1 (hvs.out x hx)
        exact ⟨p, hp, e⟩
      · rintro ⟨p, hp, rfl⟩
        exact hall p hp
    · have hJ2 : J vs w2 := hJ vs wr w2 (some it) hJs' (grown_of_went hw2) (fun r e => by
        cases e
        obtain ⟨_, _, _, _, hi⟩ := hI.blocks
        exact ⟨hitA.out, _, hi, rfl⟩)
      have htk : t ∈ ps.map (·.1) := List.mem_map.2 ⟨_, htl, rfl⟩
      have hlt : vs.length < ps.length := by
        have := nodup_len (t :: vs) (ps.map (·.1)) (List.nodup_cons.2 ⟨htv, hvn.out⟩) (fun x hx => by
          rcases List.mem_cons.1 hx with rfl | hx
          · exact htk
          · exact hvs.out x hx)
        simp at this
        omega
      obtain ⟨fn, tmps, assign, body, hy, hR⟩ := hY vs t w2 hJ2 (by omega)
      have hvn2 : Aside ((vs ++ [t]).Nodup) := by
        show List.Nodup _
        rw [List.nodup_append]
        exact ⟨hvn.out, by simp, fun a ha c hc e => by simp at hc; subst hc; subst e; exact htv ha⟩
      have hvs2 : Aside (∀ x ∈ vs ++ [t], x ∈ ps.map (·.1)) := fun x hx => by
        rcases List.mem_append.1 hx with hx | hx
        · exact hvs.out x hx
        · simp at hx; subst hx; exact htk
      have hgA : Aside (vs.length + gk = ps.length + 1) := hg
      have hltA : Aside (vs.length < ps.length) := hlt
      clear htl htv htk hlt hg
      clear hs2
      gi_wp2
      refine hR.mono ?_
      rintro e W3 (⟨rfl, hJ3, hk3⟩ | ⟨rfl, hJx3⟩)
      · gi_wp2
        gi_roundg (gk - 1)
        case measure => have := hgA.out; have := hltA.out; omega
        case rel =>
          refine ⟨vs ++ [t], by have := hgA.out; have := hltA.out; simp; omega, hvn2, hvs2, ?_, hJ3⟩
          obtain ⟨_, _, _, h1, h2⟩ := hI2.blocks
          exact hI2.same ((hk3.same _ _ h1 rfl).trans h1.symm) ((hk3.same _ _ h2 rfl).trans h2.symm)
      · gi_wp2
        refine bodyPost_ret (results_none rfl _ _ _) rfl ?_
        exact ⟨⟨_, rfl⟩, .inr ⟨_, trivial, hJx3⟩⟩

set_option maxRecDepth 100000 in
set_option maxHeartbeats 2000000 in
theorem keys0_in (n : Nat) (l Bm : Nat) (J Jx : List Int → World → Prop) (W : World) (hJ : AbidesFrom W.heap.size J) (hm : W.cell? ⟨Bm, 0, none⟩ = some (.map none)) (h0 : J [] W) :
    CallsIn Fence.wide n Tryz.prog 91 #[.func (.yield l) #[] #[], .pointer (some ⟨Bm, 0, none⟩)] W fun e W' => (∃ v, e = .returned v) ∧
      ((∃ ys, Keys (fun _ => none) ys ∧ J ys W') ∨ (∃ pre, True ∧ Jx pre W')) := by
  have hrg := run_range_nilMap (P := Tryz.prog) W 150 38 125 Tryz.underlying150
  have hnx : ∀ ty, (Instr.next (.pointer (some ⟨W.heap.size, 0, none⟩)) false ty).run Tryz.prog (W.alloc (.mapIter none 0 #[] 0)) = _ := fun ty => run_next_nilMap _ ty 0 0 #[]
  have hJ0 : J [] (W.alloc (.mapIter none 0 #[] 0)) := hJ [] W _ none h0 (World.grownBy_alloc W _ none) (fun r e => by cases e)
  refine callsIn_of_wp Tryz.func91 rfl trivial ?_ rfl
  simp only [Tryz.ntmps91, List.size_toArray, List.length_cons, List.length_nil, Nat.reduceAdd, Nat.reduceSub, Array.replicate_succ, Array.replicate_zero, List.push_toArray, List.append_toArray, List.nil_append, List.cons_append]
  gi_wp2
  refine wpIn_loop_rounds 1 ?_
  rw [roundsIn_succ]
  gi_wp2
  go_end0
  exact ⟨⟨_, rfl⟩, .inl ⟨[], ⟨by simp, by simp⟩, hJ0⟩⟩

/-- The map that a value names: none tells nothing. -/
def MapV (w : World) (mb : Option Nat) (P : Int → Option Int) (m : Nat) : Prop :=
  match mb with
  | none => ∀ k, P k = none
  | some b => IsMap w b P m
theorem MapV.kept {w u : World} {mb : Option Nat} {P : Int → Option Int} {m : Nat} (h : MapV w mb P m) (e : ∀ b, mb = some b → u.heap[b]? = w.heap[b]?) : MapV u mb P m := by
  cases mb with
  | none => exact h
  | some b => exact IsMap.same h (e b rfl)
theorem MapV.lt {w : World} {mb : Option Nat} {P : Int → Option Int} {m : Nat} (h : MapV w mb P m) : ∀ b, mb = some b → b < w.heap.size := by
  rintro b rfl
  exact IsMap.lt h

theorem keys_stops (n : Nat) (hn : 1 ≤ n) (Bm m : Nat) (mb : Option Nat) (P : Int → Option Int) (w : World) (hBm : Bm < w.heap.size) (hc : w.cell? ⟨Bm, 0, none⟩ = some (.map mb)) (hmap : MapV w mb P m) :
    SeqStopsK Fence.wide n Tryz.prog 91 #[.pointer (some ⟨Bm, 0, none⟩)] (fun x : Int => #[Value.int .u32 x]) KeepsWalks (Keys P) (fun _ => True) m w := fun l J Jx W hW hJ _ hY h0 => by
  have hc' := (hW.cell (p := ⟨Bm, 0, none⟩) hBm).trans hc
  have hm' : MapV W mb P m := hmap.kept fun b hb => hW.block b (hmap.lt b hb)
  cases mb with
  | none =>
    have hP : P = fun _ => none := funext hmap
    subst hP
    exact keys0_in n l Bm J Jx W hJ hc' h0
  | some b => exact keys1_in n hn l Bm b m P J Jx hY W hJ hc' hm' h0

theorem info29 : (Tryz.prog.info? 38).map (fun i => (i.zero, i.size, i.bytes)) = some (some (.int .u32 0), 1, 4) := by kernel_rfl

set_option maxRecDepth 100000 in
set_option maxHeartbeats 4000000 in
/-- The library's gathering of keys, handed an iterator over a map's keys. -/
theorem appendSeq_any (Bm m : Nat) (mb : Option Nat) (P : Int → Option Int) (w : World) (hm : m ≤ 1000000) (hBm : Bm < w.heap.size) (hc : w.cell? ⟨Bm, 0, none⟩ = some (.map mb)) (hmap : MapV w mb P m) :
    Calls Tryz.prog 101 #[.slice none 0 0, .func (.func 91) #[] #[.pointer (some ⟨Bm, 0, none⟩)]] w fun e W' => ∃ v xs, e = .returned v ∧ Keys P xs ∧ xs.length ≤ m ∧ W'.ownsRow w.heap.size 38 1 v xs.length (xs.map (Value.int .u32)) ∧ (v = .slice none 0 0 ↔ xs = []) ∧ Below w.heap.size w W' := by
  obtain ⟨i0, hi, hz0, hz1, hz2⟩ := info_parts info29
  refine (callsIn_wide (n := 3)).1 ?_
  refine callsIn_of_wp_marks Tryz.func101 rfl trivial ?_ rfl
  simp only [Tryz.ntmps101, List.size_toArray, List.length_cons, List.length_nil, Nat.reduceAdd, Nat.reduceSub, Array.replicate_succ, Array.replicate_zero, List.push_toArray, List.append_toArray, List.nil_append, List.cons_append]
  gi_wp2
  have bO := Boxed.new w 44 (.slice none 0 0)
  have hB0 : Below w.heap.size w (w.alloc (.cells #[.slice none 0 0] 44)) := (Below.refl _ w).alloc (Nat.le_refl _) _
  have hc1 : (w.alloc (.cells #[.slice none 0 0] 44)).cell? ⟨Bm, 0, none⟩ = some (.map mb) := (hB0.cell (p := ⟨Bm, 0, none⟩) hBm).trans hc
  have hm1 : MapV (w.alloc (.cells #[.slice none 0 0] 44)) mb P m := hmap.kept fun b hb => hB0.block b (hmap.lt b hb)
  refine wpIn_rangeFunc_ownG rfl (by omega) (gf := 91) (lb := #[.pointer (some ⟨Bm, 0, none⟩)]) rfl trivial (enters_of Tryz.func91 (by kernel_rfl) rfl)
    (keys_stops (3 - 1) (by omega) Bm m mb P _ (by simp; omega) hc1 hm1) walksK_t walksK_b (Below.refl _ _) (fun _ => rfl)
    (fun pre W => ((∃ v, Boxed W w.heap.size 44 v ∧ W.ownsRow w.heap.size 38 1 v pre.length (pre.map (Value.int .u32)) ∧ (v = .slice none 0 0 ↔ pre = [])) ∧ Below w.heap.size w W) ∧ pre.length ≤ m)
    (fun _ _ _ => False)
    (OwnFrom.and (OwnFrom.and (Own.from (holdsRow_own w.heap.size w.heap.size 44 38 1 (fun pre : List Int => pre.length) (fun pre => pre.map (Value.int .u32)) (fun pre v => v = .slice none 0 0 ↔ pre = [])) _) (ownFrom_below (Nat.le_refl _) (by simp))) (ownFrom_pure _ _))
    (fun _ _ _ _ _ hs _ _ => hs)
    ⟨⟨⟨_, bO, World.ownsRow_nil _ _ _ _, by simp⟩, hB0⟩, Nat.zero_le _⟩
    (fun x => { tmps := #[.slice none 0 0, .func (.func 91) #[] #[.pointer (some ⟨Bm, 0, none⟩)], .pointer (some ⟨w.heap.size, 0, none⟩), undef, .slice none 0 0, .int .u32 x, .func (.func 91) #[] #[.pointer (some ⟨Bm, 0, none⟩)], .int .u32 x, undef, undef, undef, undef, undef], defers := [] }) ?assign ?body ?done ?stop
  case assign =>
    intro l x W K hK
    gi_wp2
    exact hK
  case body =>
    rintro l pre x W ⟨⟨⟨v, hv, hrow, hnil⟩, hB⟩, hpm⟩ hlt
    have hc := hv.cell
    gi_wp2_with (gi_at_builtin; refine wpListIn_append_own _ rfl _ _ 44 rfl w.heap.size 38 i0 (.int .u32 0) 1 4 Tryz.underlying44 hi hz0 hz1 hz2 rfl (by decide) _ _ _ rfl (hrow.alloc _) ⟨W.heap.size, 0, none⟩ 1 1 [.int .u32 x] rfl rfl (cell_one_new _ _ _) (by simp [Value.oneCell']) (by simp only [maxLen]; omega) (by omega) (by have := hB.size; simp; omega) ?_; intro v' w1 hown' hgrow _; obtain ⟨g', cap', rfl⟩ := ownsRow_succ hown'; obtain ⟨hv1, hv2, hr2, hk2, hb2⟩ := hv.appended (by decide) hrow hB.size (Nat.le_refl _) hown' hgrow; have hc1 := hv1.cell; have hf1 := hv1.frozen)
    exact ⟨hk2.from _, hk2.walks, ⟨⟨_, hv2, by simpa using hr2, by simp⟩, hB.trans hb2⟩, by simp; omega⟩
  case done =>
    rintro D ys W hD hS ⟨⟨⟨v, hv, hrow, hnil⟩, hB⟩, hpm⟩ hK
    have hc := hv.cell
    gi_wp2
    refine ⟨by simp, .inl ⟨_, _, rfl, run_takeDeferred hK, ?_⟩⟩
    exact ⟨_, results_tmp rfl _ _ _, v, ys, rfl, hS, hpm, ownsRow_putObj hrow _ hK rfl, hnil, hB.trans (belowK_b (w := w) (Nat.le_refl _) W D _ _ (by simp at hD; omega) hK rfl rfl)⟩
  case stop =>
    rintro D c pre W _ _ h _
    exact h.elim
end Go.Proofs.YteickckgljlacaaGreat.Rm

namespace Go.Proofs.YteickckgljlacaaGreat.Rs
open Go Go.RowKit

abbrev lt := Sort.ltInt
theorem insInner_go (a j : Nat) (d : Array Int) (h : a < j + 1) (hl : lt d[j + 1]! d[j]! = true) : Sort.insInner lt a (j + 1) d = Sort.insInner lt a j (Sort.swp d (j + 1) j) := by
  rw [Sort.insInner, if_pos]
  simp only [hl, Bool.and_true, decide_eq_true_eq]
  omega
theorem insInner_end (a j : Nat) (d : Array Int) (h : j ≤ a ∨ lt d[j]! d[j - 1]! = false) : Sort.insInner lt a j d = d := by
  cases j with
  | zero => rfl
  | succ j =>
    rw [Sort.insInner, if_neg]
    rcases h with h | h
    · simp only [Bool.and_eq_true, decide_eq_true_eq, not_and]
      intro e
      omega
    · rw [show j + 1 - 1 = j by omega] at h
      rw [h]
      simp
theorem insOuter_go (a b i : Nat) (d : Array Int) (h : i < b) : Sort.insOuter lt a b i d = Sort.insOuter lt a b (i + 1) (Sort.insInner lt a i d) := by
  rw [Sort.insOuter, if_pos h]
theorem insOuter_end (a b i : Nat) (d : Array Int) (h : ¬ i < b) : Sort.insOuter lt a b i d = d := by
  rw [Sort.insOuter, if_neg h]

set_option maxHeartbeats 4000000 in
theorem ins_any {w0 w : World} {blk cap n : Nat} {U : Nat → Value} {d : Array Int} (h : Rw w0 blk cap U d w) (hn : d.size = n) (hsz : n < 4611686018427387904) (a b : Nat) (hab : a ≤ b) (hb : b ≤ n) :
    Calls Tryz.prog 118 #[.slice (some ⟨blk, 0, none⟩) n cap, .int .i64 (a : Int), .int .i64 (b : Int)] w fun e w' => e = .returned (.tuple #[]) ∧ Rw w0 blk cap U (Sort.insertionSort lt d a b) w' := by
  go_enter Tryz.func118, Tryz.ntmps118
  go_wp2
  go_loopg [6] (b - a) (fun g sv wr => ∃ (i : Nat) (D : Array Int), sv = .int .i64 (i : Int) ∧ a < i ∧ i ≤ b + 1 ∧ b + 1 - i ≤ g + 1 ∧ Aside (D.size = n) ∧ Rw w0 blk cap U D wr ∧ Aside (Sort.insOuter lt a b i D = Sort.insOuter lt a b (a + 1) d))
  case atStart => exact ⟨a + 1, d, by go_num, by omega, by omega, by omega, hn, h, rfl⟩
  case round =>
    obtain ⟨i, D, rfl, hai, hib, hg, hs, hR, hE⟩ := hrel
    obtain ⟨go, hgo⟩ : ∃ go, go = gk := ⟨_, rfl⟩
    have hgoA : Aside (b + 1 - i ≤ go + 1) := (by omega : b + 1 - i ≤ go + 1)
    by_cases hlt : i < b
    · have hltz : (i : Int) < (b : Int) := by omega
      go_wp2
      go_loopg [7] i (fun g sv wr => ∃ (D' : Array Int), sv = .int .i64 (g : Int) ∧ a ≤ g ∧ g ≤ i ∧ Aside (D'.size = n) ∧ Rw w0 blk cap U D' wr ∧ Aside (Sort.insInner lt a g D' = Sort.insInner lt a i D))
      case atStart => exact ⟨D, rfl, by omega, Nat.le_refl _, hs, hR, rfl⟩
      case round =>
        clear hR
        obtain ⟨D', rfl, haj, hji, hs', hR, hI⟩ := hrel
        have fin : Aside ((gk ≤ a ∨ lt D'[gk]! D'[gk - 1]! = false) → Sort.insOuter lt a b (i + 1) D' = Sort.insOuter lt a b (a + 1) d) := fun e => by
          rw [← hE.out, insOuter_go a b i D hlt, ← hI.out, insInner_end a gk D' e]
        by_cases hja : a < gk
        · obtain ⟨j, hj⟩ : ∃ j : Nat, gk = j + 1 := ⟨gk - 1, by omega⟩
          have hz : (gk : Int) - 1 = (j : Int) := by omega
          have hja' : (a : Int) < (gk : Int) := by omega
          have hd : decide ((gk : Int) > (a : Int)) = true := decide_eq_true (by omega)
          have b1 : (gk : Int) < (n : Int) := by omega
          have b2 : (j : Int) < (n : Int) := by omega
          have c1 := hR.cell (i := gk) (by have := hs'.out; omega)
          have c2 := hR.cell (i := j) (by have := hs'.out; omega)
          have jA : Aside (gk = j + 1) := hj
          obtain ⟨x, hx⟩ : ∃ x, x = D'[gk]! := ⟨_, rfl⟩
          obtain ⟨y, hy⟩ : ∃ y, y = D'[j]! := ⟨_, rfl⟩
          have hxA : Aside (x = D'[gk]!) := hx
          have hyA : Aside (y = D'[j]!) := hy
          rw [← hx] at c1
          rw [← hy] at c2
          have K := fun w => less_any x y w
          cases hl : lt x y with
          | true =>
            rw [show Sort.ltInt x y = true from hl] at K
            have hlA : Aside (lt x y = true) := hl
            clear hx hy hj hl
            go_wp2_with fail
            go_quiet (first | (go_at_call 124; exact Calls.quiet_of_same (K _)))
            have hR1 := hR.drewN nq
            generalize wr.drewN nq = w1 at hR1 ⊢
            have c1 := hR1.cell (i := gk) (by have := hs'.out; omega)
            have c2 := hR1.cell (i := j) (by have := hs'.out; omega)
            rw [← hxA.out] at c1
            rw [← hyA.out] at c2
            have f1 := hR1.free gk
            have f2 := hR1.free j
            obtain ⟨u, c3⟩ := hR1.cell2 gk j (by have := hs'.out; omega) (by have := hs'.out; omega) y
            have hR2 := (hR1.swp gk j (by have := hs'.out; omega) (by have := hs'.out; omega)).drew
            rw [← hxA.out, ← hyA.out] at hR2
            go_wp2_with fail
            go_region
            generalize ((w1.setCell ⟨blk, gk, none⟩ (.int .u32 y)).setCell ⟨blk, j, none⟩ (.int .u32 x)).drew = w2 at hR2 ⊢
            go_wp2
            go_roundg j
            case measure => have := jA.out; omega
            case rel =>
              have e := jA.out
              subst e
              exact ⟨_, rfl, by omega, by omega, by rw [size_swp]; exact hs'.out, hR2, by rw [← hI.out, insInner_go a j D' hja (by rw [← hxA.out, ← hyA.out]; exact hlA.out)]; exact rfl⟩
          | false =>
            rw [show Sort.ltInt x y = false from hl] at K
            have hlA : Aside (lt x y = false) := hl
            clear hx hy hj hl
            go_wp2_with fail
            go_quiet (first | (go_at_call 124; exact Calls.quiet_of_same (K _)))
            have hR1 := hR.drewN nq
            generalize wr.drewN nq = w1 at hR1 ⊢
            go_wp2
            go_roundg (b - (i + 1))
            case measure => omega
            case rel =>
              have e := jA.out
              exact ⟨i + 1, D', by go_num, by omega, by omega, by omega, hs', hR1, fin.out (.inr (by rw [show gk - 1 = j by omega, ← hxA.out, ← hyA.out]; exact hlA.out))⟩
        · have hd : decide ((gk : Int) > (a : Int)) = false := decide_eq_false (by omega)
          have hja' : ¬ (a : Int) < (gk : Int) := by omega
          go_wp2_with fail
          go_region
          have hR1 := hR.drew
          generalize wr.drew = w1 at hR1 ⊢
          go_wp2
          go_roundg (b - (i + 1))
          case measure => omega
          case rel => exact ⟨i + 1, D', by go_num, by omega, by omega, by omega, hs', hR1, fin.out (.inl (by omega))⟩
    · have hltz : ¬ (i : Int) < (b : Int) := by omega
      go_wp2
      go_end0
      refine ⟨rfl, ?_⟩
      rw [Sort.insertionSort, ← hE.out, insOuter_end a b i D hlt]
      exact hR
end Go.Proofs.YteickckgljlacaaGreat.Rs

namespace Go.Proofs.YteickckgljlacaaGreat.Rs
open Go Go.RowKit

abbrev Pm (a b : Nat) (d d' : Array Int) : Prop := Sort.PermIn a b d d'
theorem Pm.refl (a b : Nat) (d : Array Int) : Pm a b d d := Sort.permIn_refl d a b
theorem Pm.trans {a b : Nat} {d d' d'' : Array Int} (h : Pm a b d d') (k : Pm a b d' d'') : Pm a b d d'' := Sort.permIn_trans d d' d'' a b h k
theorem Pm.swp {a b : Nat} {d d' : Array Int} (h : Pm a b d d') {i j : Nat} (h1 : a ≤ i) (h2 : i < b) (h3 : a ≤ j) (h4 : j < b) (h5 : b ≤ d'.size) : Pm a b d (Sort.swp d' i j) := h.trans (Sort.swp_permIn d' a b i j h1 h2 h3 h4 h5)
theorem Pm.size {a b : Nat} {d d' : Array Int} (h : Pm a b d d') : d'.size = d.size := h.1

set_option maxHeartbeats 4000000 in
theorem rev_any {w0 w : World} {blk cap n : Nat} {U : Nat → Value} {d : Array Int} (h : Rw w0 blk cap U d w) (hn : d.size = n) (hsz : n < 4611686018427387904) (a b : Nat) (hab : a < b) (hb : b ≤ n) :
    Calls Tryz.prog 122 #[.slice (some ⟨blk, 0, none⟩) n cap, .int .i64 (a : Int), .int .i64 (b : Int)] w fun e w' => e = .returned (.tuple #[]) ∧ ∃ d', Pm a b d d' ∧ Rw w0 blk cap U d' w' := by
  go_enter Tryz.func122, Tryz.ntmps122
  go_wp2
  go_loopg [6, 7] b (fun g s1 s2 wr => ∃ (i j : Nat) (D : Array Int), s1 = .int .i64 (i : Int) ∧ s2 = .int .i64 (j : Int) ∧ a ≤ i ∧ j < b ∧ j - i ≤ g ∧ Aside (D.size = n) ∧ Aside (Pm a b d D) ∧ Rw w0 blk cap U D wr)
  case atStart => exact ⟨a, b - 1, d, rfl, by go_num, Nat.le_refl _, by omega, by omega, hn, Pm.refl _ _ _, h⟩
  case round =>
    obtain ⟨i, j, D, rfl, rfl, hai, hjb, hg, hs, hP, hR⟩ := hrel
    by_cases hij : i < j
    · have hijz : (i : Int) < (j : Int) := by omega
      have bI : (i : Int) < (n : Int) := by omega
      have bJ : (j : Int) < (n : Int) := by omega
      have cI := hR.cell (i := i) (by have := hs.out; omega)
      have cJ := hR.cell (i := j) (by have := hs.out; omega)
      have fI := hR.free i
      have fJ := hR.free j
      have hRs := (hR.swp i j (by have := hs.out; omega) (by have := hs.out; omega)).drew
      obtain ⟨u, cU⟩ := hR.cell2 i j (by have := hs.out; omega) (by have := hs.out; omega) D[j]!
      generalize D[i]! = x at cI hRs
      generalize D[j]! = y at cJ cU hRs
      go_wp2_with fail
      go_region
      generalize ((wr.setCell ⟨blk, i, none⟩ (.int .u32 y)).setCell ⟨blk, j, none⟩ (.int .u32 x)).drew = wrs at hRs ⊢
      clear cI cJ fI fJ cU hR
      go_wp2
      go_roundg (j - 1 - (i + 1))
      case measure => omega
      case rel => exact ⟨i + 1, j - 1, _, by go_num, by go_num, by omega, by omega, Nat.le_refl _, by rw [size_swp]; exact hs.out, hP.out.swp (by omega) (by omega) (by omega) (by omega) (by have := hs.out; omega), hRs⟩
    · have hijz : ¬ (i : Int) < (j : Int) := by omega
      go_wp2
      go_end0
      exact ⟨rfl, D, hP.out, hR⟩

/-- A row, and a counter of the call's own beside it. -/
structure Ct (w0 : World) (blk cap : Nat) (U : Nat → Value) (d : Array Int) (c : Nat) (w : World) : Prop where
  row : Rw w0 blk cap U d w
  cell : ∃ s : Int, w.cell? ⟨c, 0, none⟩ = some (.int .i64 s)
  free : w.frozen? ⟨c, 0, none⟩ = false
  new : w0.heap.size ≤ c
section
variable {w0 w : World} {blk cap n c : Nat} {U : Nat → Value} {d : Array Int}
theorem Ct.drewN (h : Ct w0 blk cap U d c w) (q : Nat) : Ct w0 blk cap U d c (w.drewN q) := ⟨h.row.drewN q, h.cell, h.free, h.new⟩
theorem Ct.bump (h : Ct w0 blk cap U d c w) (t : Int) : Ct w0 blk cap U d c (w.setCell ⟨c, 0, none⟩ (.int .i64 t)) :=
  ⟨h.row.setNew h.new 0 _, ⟨t, by obtain ⟨s, hs⟩ := h.cell; exact World.cell?_setCell_same' _ _ _ (by rw [hs]; rfl)⟩, by rw [World.frozen?_setCell]; exact h.free, h.new⟩

set_option maxHeartbeats 4000000 in
theorem order2_any (h : Ct w0 blk cap U d c w) (hn : d.size = n) (_hsz : n < 4611686018427387904) (a b : Nat) (ha : a < n) (hb : b < n) :
    Calls Tryz.prog 157 #[.slice (some ⟨blk, 0, none⟩) n cap, .int .i64 (a : Int), .int .i64 (b : Int), .pointer (some ⟨c, 0, none⟩)] w fun e w' => ∃ (x y : Nat), e = .returned (.tuple #[.int .i64 (x : Int), .int .i64 (y : Int)]) ∧ ((x = a ∧ y = b) ∨ (x = b ∧ y = a)) ∧ Ct w0 blk cap U d c w' := by
  have hs : Aside (d.size = n) := hn
  have hR := h.row
  have hA : Aside (Ct w0 blk cap U d c w) := h
  clear h hn
  go_enter Tryz.func157, Tryz.ntmps157
  have bI : (b : Int) < (n : Int) := by omega
  have bJ : (a : Int) < (n : Int) := by omega
  have cI := hR.cell (i := b) (by have := hs.out; omega)
  have cJ := hR.cell (i := a) (by have := hs.out; omega)
  obtain ⟨x, hx⟩ : ∃ x, x = d[b]! := ⟨_, rfl⟩
  obtain ⟨y, hy⟩ : ∃ y, y = d[a]! := ⟨_, rfl⟩
  have hxA : Aside (x = d[b]!) := hx
  have hyA : Aside (y = d[a]!) := hy
  rw [← hx] at cI
  rw [← hy] at cJ
  have K := fun w => less_any x y w
  clear hx hy
  cases hl : lt x y with
  | true =>
    rw [show Sort.ltInt x y = true from hl] at K
    have hlA : Aside (lt d[b]! d[a]! = true) := by rw [← hxA.out, ← hyA.out]; exact hl
    clear hl hxA hyA
    go_wp2_with fail
    go_quiet (first | (go_at_call 124; exact Calls.quiet_of_same (K _)))
    have hC := hA.out.drewN nq
    have hf := hC.free
    obtain ⟨s, hc⟩ := hC.cell
    generalize w.drewN nq = w1 at hC hf hc ⊢
    go_wp2
    go_ret2
    exact ⟨b, a, rfl, .inr ⟨rfl, rfl⟩, hC.bump _⟩
  | false =>
    rw [show Sort.ltInt x y = false from hl] at K
    have hlA : Aside (lt d[b]! d[a]! = false) := by rw [← hxA.out, ← hyA.out]; exact hl
    clear hl hxA hyA
    go_wp2_with fail
    go_quiet (first | (go_at_call 124; exact Calls.quiet_of_same (K _)))
    have hC := hA.out.drewN nq
    generalize w.drewN nq = w1 at hC ⊢
    go_wp2
    go_ret2
    exact ⟨a, b, rfl, .inl ⟨rfl, rfl⟩, hC⟩

set_option maxHeartbeats 4000000 in
theorem median_any (h : Ct w0 blk cap U d c w) (hn : d.size = n) (hsz : n < 4611686018427387904) (i j k : Nat) (hi : i < n) (hj : j < n) (hk : k < n) :
    Calls Tryz.prog 146 #[.slice (some ⟨blk, 0, none⟩) n cap, .int .i64 (i : Int), .int .i64 (j : Int), .int .i64 (k : Int), .pointer (some ⟨c, 0, none⟩)] w fun e w' => ∃ (x : Nat), e = .returned (.int .i64 (x : Int)) ∧ (x = i ∨ x = j ∨ x = k) ∧ Ct w0 blk cap U d c w' := by
  have K1 := order2_any h hn hsz i j hi hj
  go_enter Tryz.func146, Tryz.ntmps146
  go_wp2_with (first
    | (go_at_call 157; refine K1.mono ?_; clear K1; rintro e w1 ⟨i1, j1, rfl, m1, h1⟩; have b1 : j1 < n := (by omega); have b2 : i1 < n := (by omega); have K2 := order2_any h1 hn hsz j1 k b1 hk)
    | (go_at_call 157; refine K2.mono ?_; clear K2; rintro e w2 ⟨j2, k2, rfl, m2, h2⟩; have b3 : j2 < n := (by omega); have K3 := order2_any h2 hn hsz i1 j2 b2 b3)
    | (go_at_call 157; refine K3.mono ?_; clear K3; rintro e w3 ⟨i3, j3, rfl, m3, h3⟩))
  go_ret
  exact ⟨j3, rfl, by omega, h3⟩

set_option maxHeartbeats 4000000 in
theorem medianAdj_any (h : Ct w0 blk cap U d c w) (hn : d.size = n) (hsz : n < 4611686018427387904) (i : Nat) (h0 : 0 < i) (hi : i + 1 < n) :
    Calls Tryz.prog 145 #[.slice (some ⟨blk, 0, none⟩) n cap, .int .i64 (i : Int), .pointer (some ⟨c, 0, none⟩)] w fun e w' => ∃ (x : Nat), e = .returned (.int .i64 (x : Int)) ∧ (x + 1 = i ∨ x = i ∨ x = i + 1) ∧ Ct w0 blk cap U d c w' := by
  obtain ⟨p, hp⟩ : ∃ p : Nat, (i : Int) - 1 = (p : Int) := ⟨i - 1, by omega⟩
  obtain ⟨q, hq⟩ : ∃ q : Nat, (i : Int) + 1 = (q : Int) := ⟨i + 1, by omega⟩
  have hpA : Aside (p + 1 = i) := (by omega : p + 1 = i)
  have hqA : Aside (q = i + 1) := (by omega : q = i + 1)
  have K1 := median_any h hn hsz p i q (by omega) (by omega) (by omega)
  go_enter Tryz.func145, Tryz.ntmps145
  go_wp2_with (go_at_call 146; refine K1.mono ?_; clear K1; rintro e w1 ⟨x, rfl, m1, h1⟩)
  go_ret
  have := hpA.out
  have := hqA.out
  exact ⟨x, rfl, by omega, h1⟩
end

set_option maxHeartbeats 8000000 in
theorem pivot_any {w0 w : World} {blk cap n : Nat} {U : Nat → Value} {d : Array Int} (h : Rw w0 blk cap U d w) (hn : d.size = n) (hsz : n < 4611686018427387904) (a b : Nat) (hab : a + 12 < b) (hb : b ≤ n) :
    Calls Tryz.prog 121 #[.slice (some ⟨blk, 0, none⟩) n cap, .int .i64 (a : Int), .int .i64 (b : Int)] w fun e w' => ∃ (p : Nat) (t : Int), e = .returned (.tuple #[.int .i64 (p : Int), .int .i64 t]) ∧ a ≤ p ∧ p < b ∧ (t = 0 ∨ t = 1 ∨ t = 2) ∧ Rw w0 blk cap U d w' := by
  obtain ⟨l, hl⟩ : ∃ l : Nat, (b : Int) - (a : Int) = (l : Int) := ⟨b - a, by omega⟩
  obtain ⟨q, hq⟩ : ∃ q : Nat, (l : Int) / 4 = (q : Int) := ⟨l / 4, by omega⟩
  have hq' : (l : Int).tdiv 4 = (q : Int) := by rw [Int.tdiv_eq_ediv_of_nonneg (by omega)]; exact hq
  obtain ⟨i, hi⟩ : ∃ i : Nat, (a : Int) + (q : Int) = (i : Int) := ⟨a + q, by omega⟩
  obtain ⟨j, hj⟩ : ∃ j : Nat, (a : Int) + (q : Int) * 2 = (j : Int) := ⟨a + q * 2, by omega⟩
  obtain ⟨k, hk⟩ : ∃ k : Nat, (a : Int) + (q : Int) * 3 = (k : Int) := ⟨a + q * 3, by omega⟩
  have f1 : Aside (0 < i ∧ a < i ∧ i + 1 < j ∧ j + 1 < k ∧ k + 1 < b) := (by omega : 0 < i ∧ a < i ∧ i + 1 < j ∧ j + 1 < k ∧ k + 1 < b)
  have g1 : (8 : Int) ≤ (l : Int) := by omega
  have f2 : Aside (a + l = b) := (by omega : a + l = b)
  have hC : Ct w0 blk cap U d w.heap.size (w.alloc (.cells #[.int .i64 0] 3)) := ⟨h.alloc _, ⟨0, by simp⟩, by simp, h.size_le⟩
  have hw : Aside (w0.heap.size ≤ w.heap.size) := h.size_le
  have tail : Aside (∀ (j' : Nat) (w' : World), a ≤ j' → j' < b → Ct w0 blk cap U d w.heap.size w' → a ≤ j' ∧ j' < b ∧ Rw w0 blk cap U d w') := fun j' w' h1 h2 h3 => ⟨h1, h2, h3.row⟩
  by_cases hc : (50 : Int) ≤ (l : Int)
  · have K1 := medianAdj_any hC hn hsz i f1.out.1 (by have := f1.out; omega)
    go_enter Tryz.func121, Tryz.ntmps121
    go_wp2_with (first
      | (go_at_call 145; refine K1.mono ?_; clear K1; rintro e w1 ⟨x1, rfl, m1, h1⟩; have K2 := medianAdj_any h1 hn hsz j (by have := f1.out; omega) (by have := f1.out; omega))
      | (go_at_call 145; refine K2.mono ?_; clear K2; rintro e w2 ⟨x2, rfl, m2, h2⟩; have K3 := medianAdj_any h2 hn hsz k (by have := f1.out; omega) (by have := f1.out; omega))
      | (go_at_call 145; refine K3.mono ?_; clear K3; rintro e w3 ⟨x3, rfl, m3, h3⟩; have K4 := median_any h3 hn hsz x1 x2 x3 (by have := f1.out; omega) (by have := f1.out; omega) (by have := f1.out; omega))
      | (go_at_call 146; refine K4.mono ?_; clear K4; rintro e w4 ⟨x4, rfl, m4, h4⟩; obtain ⟨s, hs⟩ := h4.cell))
    all_goals go_ret2
    all_goals (refine ⟨x4, _, rfl, ?_, ?_, ?_, h4.row⟩)
    all_goals first
      | (have := f1.out; omega)
      | simp
  · have K4 := median_any hC hn hsz i j k (by have := f1.out; omega) (by have := f1.out; omega) (by have := f1.out; omega)
    go_enter Tryz.func121, Tryz.ntmps121
    go_wp2_with (go_at_call 146; refine K4.mono ?_; clear K4; rintro e w4 ⟨x4, rfl, m4, h4⟩; obtain ⟨s, hs⟩ := h4.cell)
    all_goals go_ret2
    all_goals (refine ⟨x4, _, rfl, ?_, ?_, ?_, h4.row⟩)
    all_goals first
      | (have := f1.out; omega)
      | simp
end Go.Proofs.YteickckgljlacaaGreat.Rs

namespace Go.Proofs.YteickckgljlacaaGreat.Rs
open Go Go.RowKit

/-- Between i and j nothing is known; ahead of it q holds, behind it it doesn't. -/
structure Pt (a b i j : Nat) (d D : Array Int) (p : Int) (q : Int → Bool) : Prop where
  perm : Pm a b d D
  pa : D[a]! = p
  lo : ∀ k, a < k → k < i → q D[k]! = true
  hi : ∀ k, j < k → k < b → q D[k]! = false
  ai : a < i
  ij : i ≤ j + 1
  jb : j < b
section
variable {a b i j : Nat} {d D : Array Int} {p : Int} {q : Int → Bool}
theorem Pt.up (h : Pt a b i j d D p q) (h1 : i ≤ j) (h2 : q D[i]! = true) : Pt a b (i + 1) j d D p q :=
  ⟨h.perm, h.pa, fun k k1 k2 => (Nat.lt_or_ge k i).elim (fun e => h.lo k k1 e) (fun e => by rw [show k = i by omega]; exact h2), h.hi, by have := h.ai; omega, by omega, h.jb⟩
theorem Pt.down (h : Pt a b i j d D p q) (h1 : i ≤ j) (h2 : q D[j]! = false) : Pt a b i (j - 1) d D p q :=
  ⟨h.perm, h.pa, h.lo, fun k k1 k2 => (Nat.lt_or_ge j k).elim (fun e => h.hi k e k2) (fun e => by rw [show k = j by omega]; exact h2), h.ai, by have := h.ai; omega, by have := h.jb; omega⟩
theorem Pt.swap (h : Pt a b i j d D p q) (hb : b ≤ D.size) (h1 : i ≤ j) (h2 : q D[i]! = false) (h3 : q D[j]! = true) : Pt a b (i + 1) (j - 1) d (Sort.swp D i j) p q := by
  have hne : i ≠ j := fun e => by rw [e, h3] at h2; cases h2
  have h4 := h.ai
  have h5 := h.jb
  have hi : i < D.size := by omega
  have hj : j < D.size := by omega
  refine ⟨h.perm.swp (by omega) (by omega) (by omega) (by omega) hb, ?_, ?_, ?_, by omega, by omega, by omega⟩
  · rw [Sort.swp_other D i j a (by omega) (by omega)]; exact h.pa
  · intro k k1 k2
    by_cases e : k = i
    · rw [e, Sort.swp_left D i j hi hne]; exact h3
    · rw [Sort.swp_other D i j k e (by omega)]; exact h.lo k k1 (by omega)
  · intro k k1 k2
    by_cases e : k = j
    · rw [e, Sort.swp_right D i j hj]; exact h2
    · rw [Sort.swp_other D i j k (by omega) e]; exact h.hi k (by omega) k2
end
/-- What a partition leaves: the pivot at m, lesser ones ahead of it, none behind it. -/
structure Parted (a b m : Nat) (d D : Array Int) : Prop where
  perm : Pm a b d D
  am : a ≤ m
  mb : m < b
  lo : ∀ k, a ≤ k → k < m → lt D[k]! D[m]! = true
  hi : ∀ k, m < k → k < b → lt D[k]! D[m]! = false
theorem Pt.fin {a b i j : Nat} {d D : Array Int} {p : Int} {q : Int → Bool} (hq : ∀ x, q x = lt x p) (h : Pt a b i j d D p q) (hb : b ≤ D.size) (h1 : ¬ i ≤ j) : Parted a b j d (Sort.swp D j a) := by
  have h4 := h.ai
  have h5 := h.jb
  have h6 := h.ij
  have hj : j < D.size := by omega
  have hpj : (Sort.swp D j a)[j]! = p := by
    by_cases e : j = a
    · rw [e, Sort.swp_right D a a (by omega)]; exact h.pa
    · rw [Sort.swp_left D j a hj e]; exact h.pa
  refine ⟨h.perm.swp (by omega) (by omega) (by omega) (by omega) hb, by omega, h5, ?_, ?_⟩
  · intro k k1 k2
    rw [hpj]
    by_cases e : k = a
    · rw [e, Sort.swp_right D j a (by omega), ← hq]; exact h.lo j (by omega) (by omega)
    · rw [Sort.swp_other D j a k (by omega) e, ← hq]; exact h.lo k (by omega) (by omega)
  · intro k k1 k2
    rw [hpj, Sort.swp_other D j a k (by omega) (by omega), ← hq]
    exact h.hi k k1 k2
/-- What a partition into equal and greater ones leaves. -/
structure Even (a b m : Nat) (p : Int) (d D : Array Int) : Prop where
  perm : Pm a b d D
  am : a < m
  mb : m ≤ b
  lo : ∀ k, a ≤ k → k < m → lt p D[k]! = false
  hi : ∀ k, m ≤ k → k < b → lt p D[k]! = true
theorem Pt.even {a b i j : Nat} {d D : Array Int} {p : Int} {q : Int → Bool} (hq : ∀ x, q x = !lt p x) (h : Pt a b i j d D p q) (h1 : ¬ i ≤ j) : Even a b i p d D := by
  have h4 := h.ai
  have h5 := h.jb
  have h6 := h.ij
  refine ⟨h.perm, h4, by omega, ?_, ?_⟩
  · intro k k1 k2
    by_cases e : k = a
    · rw [e, h.pa]; exact Sort.swo_ltInt.irrefl p
    · have := h.lo k (by omega) k2
      rw [hq] at this
      simpa using this
  · intro k k1 k2
    have := h.hi k (by omega) k2
    rw [hq] at this
    simpa using this
theorem Pt.start (a b x : Nat) (d : Array Int) (q : Int → Bool) (h1 : a ≤ x) (h2 : x < b) (h3 : b ≤ d.size) : Pt a b (a + 1) (b - 1) d (Sort.swp d a x) d[x]! q := by
  refine ⟨(Pm.refl a b d).swp (by omega) (by omega) h1 h2 h3, ?_, fun k k1 k2 => by omega, fun k k1 k2 => by omega, by omega, by omega, by omega⟩
  by_cases e : a = x
  · rw [e, Sort.swp_right d x x (by omega)]
  · rw [Sort.swp_left d a x (by omega) e]

set_option maxHeartbeats 16000000 in
set_option maxRecDepth 100000 in
theorem part_any {w0 w : World} {blk cap n : Nat} {U : Nat → Value} {d : Array Int} (h : Rw w0 blk cap U d w) (hn : d.size = n) (hsz : n < 4611686018427387904) (a b piv : Nat) (hap : a ≤ piv) (hpb : piv < b) (hb : b ≤ n) :
    Calls Tryz.prog 126 #[.slice (some ⟨blk, 0, none⟩) n cap, .int .i64 (a : Int), .int .i64 (b : Int), .int .i64 (piv : Int)] w fun e w' => ∃ (m : Nat) (t : Bool) (D : Array Int), e = .returned (.tuple #[.int .i64 (m : Int), .bool t]) ∧ Parted a b m d D ∧ Rw w0 blk cap U D w' := by
  have hs0 : Aside (d.size = n) := hn
  have hP0 : Aside (Pt a b (a + 1) (b - 1) d (Sort.swp d a piv) d[piv]! (fun x => lt x d[piv]!)) := Pt.start a b piv d _ hap hpb (by omega)
  have hR := h
  clear h hn
  go_enter Tryz.func126, Tryz.ntmps126
  go_wp2_with fail
  have bI : (a : Int) < (n : Int) := by omega
  have bJ : (piv : Int) < (n : Int) := by omega
  have cI := hR.cell (i := a) (by have := hs0.out; omega)
  have cJ := hR.cell (i := piv) (by have := hs0.out; omega)
  have fI := hR.free a
  have fJ := hR.free piv
  have hRs := (hR.swp a piv (by have := hs0.out; omega) (by have := hs0.out; omega)).drew
  obtain ⟨u, cU⟩ := hR.cell2 a piv (by have := hs0.out; omega) (by have := hs0.out; omega) d[piv]!
  generalize d[a]! = x at cI hRs
  generalize d[piv]! = y at cJ cU hRs
  go_wp2_with fail
  go_region
  generalize ((w.setCell ⟨blk, a, none⟩ (.int .u32 y)).setCell ⟨blk, piv, none⟩ (.int .u32 x)).drew = ws at hRs ⊢
  clear cI cJ fI fJ cU hR
  obtain ⟨p, hpd⟩ : ∃ p, p = d[piv]! := ⟨_, rfl⟩
  obtain ⟨q, hqd⟩ : ∃ q : Int → Bool, q = fun x => lt x p := ⟨_, rfl⟩
  have hQ : Aside (∀ x, q x = lt x p) := fun x => by rw [hqd]
  rw [← hpd, ← hqd] at hP0
  have hs1 : Aside ((Sort.swp d a piv).size = n) := by rw [size_swp]; exact hs0.out
  generalize Sort.swp d a piv = D at hP0 hs1 hRs
  obtain ⟨i, hi⟩ : ∃ i : Nat, (a : Int) + 1 = (i : Int) := ⟨a + 1, by omega⟩
  obtain ⟨j, hj⟩ : ∃ j : Nat, (b : Int) - 1 = (j : Int) := ⟨b - 1, by omega⟩
  have hP : Aside (Pt a b i j d D p q) := by rw [show i = a + 1 by omega, show j = b - 1 by omega]; exact hP0
  have hs := hs1
  have hR := hRs
  have hb0 : Aside (b ≤ n) := hb
  clear hP0 hs1 hRs hpd hqd
  go_wp2
  clear hi hj
  go_loopg [10] (j + 1) (fun g s wr => ∃ (i : Nat), s = .int .i64 (i : Int) ∧ j + 1 - i ≤ g ∧ Aside (Pt a b i j d D p q) ∧ Rw w0 blk cap U D wr)
  case atStart => exact ⟨i, rfl, by omega, hP, hR⟩
  case round =>
    clear hR hP
    obtain ⟨i, rfl, hg, hP, hR⟩ := hrel
    have hjb := hP.out.jb
    have hai := hP.out.ai
    have hij := hP.out.ij
    have hp : Aside (p = D[a]!) := hP.out.pa.symm
    go_upto_region 3 with fail
    go_cut [43] from 30 to 43 (fun sb w => ∃ b : Bool, sb = .bool b ∧ Aside (b = true ↔ (i ≤ j ∧ q D[i]! = true)) ∧ Rw w0 blk cap U D w)
    case first =>
      by_cases hle : i ≤ j
      · have hd : decide ((i : Int) ≤ (j : Int)) = true := decide_eq_true (by omega)
        have hdz : (i : Int) ≤ (j : Int) := by omega
        have bI : (i : Int) < (n : Int) := by omega
        have bJ : (a : Int) < (n : Int) := by omega
        have cI := hR.cell (i := i) (by have := hs.out; omega)
        have cJ := hR.cell (i := a) (by have := hs.out; omega)
        obtain ⟨x, hx⟩ : ∃ x, x = D[i]! := ⟨_, rfl⟩
        obtain ⟨y, hy⟩ : ∃ y, y = D[a]! := ⟨_, rfl⟩
        have hxA : Aside (x = D[i]!) := hx
        have hyA : Aside (y = D[a]!) := hy
        rw [← hx] at cI
        rw [← hy] at cJ
        have K := fun w => less_any x y w
        clear hx hy
        cases hl : lt x y with
        | true =>
          rw [show Sort.ltInt x y = true from hl] at K
          have hlA : Aside (lt D[i]! D[a]! = true) := by rw [← hxA.out, ← hyA.out]; exact hl
          clear hl hxA hyA
          go_wp2_with fail
          go_quiet (first | (go_at_call 124; exact Calls.quiet_of_same (K _)))
          have hRq := hR.drewN nq
          generalize wr.drewN nq = wrq at hRq ⊢
          clear nq cI cJ K hR
          go_wp2_with fail
          go_meet
          case rel => exact ⟨_, rfl, (show Aside _ from ⟨fun _ => ⟨hle, (by rw [hQ.out, hp.out]; simp [hlA.out])⟩, fun _ => rfl⟩), hRq⟩
        | false =>
          rw [show Sort.ltInt x y = false from hl] at K
          have hlA : Aside (lt D[i]! D[a]! = false) := by rw [← hxA.out, ← hyA.out]; exact hl
          clear hl hxA hyA
          go_wp2_with fail
          go_quiet (first | (go_at_call 124; exact Calls.quiet_of_same (K _)))
          have hRq := hR.drewN nq
          generalize wr.drewN nq = wrq at hRq ⊢
          clear nq cI cJ K hR
          go_wp2_with fail
          go_meet
          case rel => exact ⟨_, rfl, (show Aside _ from ⟨fun e => (by cases e), fun e => absurd e.2 (by rw [hQ.out, hp.out]; simp [hlA.out])⟩), hRq⟩

      · have hd : decide ((i : Int) ≤ (j : Int)) = false := decide_eq_false (by omega)
        have hdz : ¬ (i : Int) ≤ (j : Int) := by omega
        go_wp2_with fail
        go_region
        go_wp2_with fail
        go_meet
        case rel => exact ⟨_, rfl, (show Aside _ from ⟨fun e => (by cases e), fun e => absurd e.1 hle⟩), hR.drew⟩
    case rest =>
      clear hR
      obtain ⟨bb, rfl, hb, hR⟩ := hcut

      cases bb with
      | true =>
        have hb1 := hb.out.1 rfl
        go_wp2
        go_roundg (j + 1 - (i + 1))
        case measure => have := hb1.1; omega
        case rel => exact ⟨i + 1, by go_num, Nat.le_refl _, hP.out.up hb1.1 hb1.2, hR⟩
      | false =>
        have hup : Aside (i ≤ j → q D[i]! = false) := fun e => (by cases hh : q D[i]! with | false => rfl | true => exact absurd (hb.out.2 ⟨e, hh⟩) (by simp))
        clear hb hg
        go_wp2
        go_loopg [11] (j + 1) (fun g s wr => ∃ (j : Nat), s = .int .i64 (j : Int) ∧ j + 1 ≤ g ∧ Aside (Pt a b i j d D p q) ∧ Aside (i ≤ j → q D[i]! = false) ∧ Rw w0 blk cap U D wr)
        case atStart => exact ⟨j, rfl, Nat.le_refl _, hP, hup, hR⟩
        case round =>
          clear hR hP hup hij hjb hai hp
          obtain ⟨j, rfl, hg, hP, hup, hR⟩ := hrel
          have hjb := hP.out.jb
          have hai := hP.out.ai
          have hij := hP.out.ij
          have hp : Aside (p = D[a]!) := hP.out.pa.symm
          go_upto_region 5 with fail
          go_cut [60] from 46 to 60 (fun sb w => ∃ b : Bool, sb = .bool b ∧ Aside (b = true ↔ (i ≤ j ∧ q D[j]! = false)) ∧ Rw w0 blk cap U D w)
          case first =>
            by_cases hle : i ≤ j
            · have hd : decide ((i : Int) ≤ (j : Int)) = true := decide_eq_true (by omega)
              have hdz : (i : Int) ≤ (j : Int) := by omega
              have bI : (j : Int) < (n : Int) := by omega
              have bJ : (a : Int) < (n : Int) := by omega
              have cI := hR.cell (i := j) (by have := hs.out; omega)
              have cJ := hR.cell (i := a) (by have := hs.out; omega)
              obtain ⟨x, hx⟩ : ∃ x, x = D[j]! := ⟨_, rfl⟩
              obtain ⟨y, hy⟩ : ∃ y, y = D[a]! := ⟨_, rfl⟩
              have hxA : Aside (x = D[j]!) := hx
              have hyA : Aside (y = D[a]!) := hy
              rw [← hx] at cI
              rw [← hy] at cJ
              have K := fun w => less_any x y w
              clear hx hy
              cases hl : lt x y with
              | true =>
                rw [show Sort.ltInt x y = true from hl] at K
                have hlA : Aside (lt D[j]! D[a]! = true) := by rw [← hxA.out, ← hyA.out]; exact hl
                clear hl hxA hyA
                go_wp2_with fail
                go_quiet (first | (go_at_call 124; exact Calls.quiet_of_same (K _)))
                have hRq := hR.drewN nq
                generalize wr.drewN nq = wrq at hRq ⊢
                clear nq cI cJ K hR
                go_wp2_with fail
                go_meet
                case rel => exact ⟨_, rfl, (show Aside _ from ⟨fun e => (by cases e), fun e => absurd e.2 (by rw [hQ.out, hp.out]; simp [hlA.out])⟩), hRq⟩
              | false =>
                rw [show Sort.ltInt x y = false from hl] at K
                have hlA : Aside (lt D[j]! D[a]! = false) := by rw [← hxA.out, ← hyA.out]; exact hl
                clear hl hxA hyA
                go_wp2_with fail
                go_quiet (first | (go_at_call 124; exact Calls.quiet_of_same (K _)))
                have hRq := hR.drewN nq
                generalize wr.drewN nq = wrq at hRq ⊢
                clear nq cI cJ K hR
                go_wp2_with fail
                go_meet
                case rel => exact ⟨_, rfl, (show Aside _ from ⟨fun _ => ⟨hle, (by rw [hQ.out, hp.out]; simp [hlA.out])⟩, fun _ => rfl⟩), hRq⟩

            · have hd : decide ((i : Int) ≤ (j : Int)) = false := decide_eq_false (by omega)
              have hdz : ¬ (i : Int) ≤ (j : Int) := by omega
              go_wp2_with fail
              go_region
              go_wp2_with fail
              go_meet
              case rel => exact ⟨_, rfl, (show Aside _ from ⟨fun e => (by cases e), fun e => absurd e.1 hle⟩), hR.drew⟩
          case rest =>
            clear hR
            obtain ⟨bb, rfl, hb, hR⟩ := hcut

            cases bb with
            | true =>
              have hb1 := hb.out.1 rfl
              go_wp2
              go_roundg (j - 1 + 1)
              case measure => have := hb1.1; omega
              case rel => exact ⟨j - 1, by go_num, Nat.le_refl _, hP.out.down hb1.1 hb1.2, (show Aside _ from fun e => hup.out (by omega)), hR⟩
            | false =>
              have hdn : Aside (i ≤ j → q D[j]! = true) := fun e => (by cases hh : q D[j]! with | true => rfl | false => exact absurd (hb.out.2 ⟨e, hh⟩) (by simp))
              clear hb hg
              by_cases hlt : i ≤ j
              · have hlz : ¬ (j : Int) < (i : Int) := by omega
                have hPs0 := hP.out.swap (by have := hs.out; have := hb0.out; omega) hlt (hup.out hlt) (hdn.out hlt)
                go_wp2_with fail
                have bI1 : (i : Int) < (n : Int) := by omega
                have bJ1 : (j : Int) < (n : Int) := by omega
                have cI1 := hR.cell (i := i) (by have := hs.out; omega)
                have cJ1 := hR.cell (i := j) (by have := hs.out; omega)
                have fI1 := hR.free i
                have fJ1 := hR.free j
                have hRs := (hR.swp i j (by have := hs.out; omega) (by have := hs.out; omega)).drew
                obtain ⟨u1, cU1⟩ := hR.cell2 i j (by have := hs.out; omega) (by have := hs.out; omega) D[j]!
                generalize D[i]! = x1 at cI1 hRs
                generalize D[j]! = y1 at cJ1 cU1 hRs
                go_wp2_with fail
                go_region
                generalize ((wc.setCell ⟨blk, i, none⟩ (.int .u32 y1)).setCell ⟨blk, j, none⟩ (.int .u32 x1)).drew = wcs at hRs ⊢
                clear cI1 cJ1 fI1 fJ1 cU1 hR

                have hss : Aside ((Sort.swp D i j).size = n) := by rw [size_swp]; exact hs.out
                have hPs : Aside (Pt a b (i + 1) (j - 1) d (Sort.swp D i j) p q) := hPs0
                clear hPs0
                generalize Sort.swp D i j = D1 at hPs hss hRs
                go_wp2
                go_loopg [10, 11] (j + 1) (fun g s1 s2 wr => ∃ (i j : Nat) (D : Array Int), s1 = .int .i64 (i : Int) ∧ s2 = .int .i64 (j : Int) ∧ j + 1 - i ≤ g ∧ Aside (D.size = n) ∧ Aside (Pt a b i j d D p q) ∧ Rw w0 blk cap U D wr)
                case atStart => exact ⟨i + 1, j - 1, D1, by go_num, by go_num, by omega, hss, hPs, hRs⟩
                case round =>
                  clear hRs hPs hss hs hP hup hdn hij hjb hai hp hlt hlz
                  obtain ⟨i, j, D, rfl, rfl, hg0, hs, hP, hR⟩ := hrel
                  obtain ⟨go, hgo⟩ : ∃ go, go = gk := ⟨_, rfl⟩
                  have hgA : Aside (j + 1 - i ≤ go) := (by omega : j + 1 - i ≤ go)
                  obtain ⟨j0, hj0⟩ : ∃ j0, j0 = j := ⟨_, rfl⟩
                  have hiA : Aside (go = gk) := hgo
                  clear hg0 hgo
                  go_wp2
                  go_loopg [10] (j + 1) (fun g s wr => ∃ (i : Nat), s = .int .i64 (i : Int) ∧ j + 1 - i ≤ g ∧ Aside (j + 1 - i ≤ go) ∧ Aside (Pt a b i j d D p q) ∧ Rw w0 blk cap U D wr)
                  case atStart => exact ⟨i, rfl, by omega, hgA, hP, hR⟩
                  case round =>
                    clear hR hP hgA
                    obtain ⟨i, rfl, hg, hgA, hP, hR⟩ := hrel
                    have hjb := hP.out.jb
                    have hai := hP.out.ai
                    have hij := hP.out.ij
                    have hp : Aside (p = D[a]!) := hP.out.pa.symm
                    go_upto_region 13 with fail
                    go_cut [112] from 99 to 112 (fun sb w => ∃ b : Bool, sb = .bool b ∧ Aside (b = true ↔ (i ≤ j ∧ q D[i]! = true)) ∧ Rw w0 blk cap U D w)
                    case first =>
                      by_cases hle : i ≤ j
                      · have hd : decide ((i : Int) ≤ (j : Int)) = true := decide_eq_true (by omega)
                        have hdz : (i : Int) ≤ (j : Int) := by omega
                        have bI : (i : Int) < (n : Int) := by omega
                        have bJ : (a : Int) < (n : Int) := by omega
                        have cI := hR.cell (i := i) (by have := hs.out; omega)
                        have cJ := hR.cell (i := a) (by have := hs.out; omega)
                        obtain ⟨x, hx⟩ : ∃ x, x = D[i]! := ⟨_, rfl⟩
                        obtain ⟨y, hy⟩ : ∃ y, y = D[a]! := ⟨_, rfl⟩
                        have hxA : Aside (x = D[i]!) := hx
                        have hyA : Aside (y = D[a]!) := hy
                        rw [← hx] at cI
                        rw [← hy] at cJ
                        have K := fun w => less_any x y w
                        clear hx hy
                        cases hl : lt x y with
                        | true =>
                          rw [show Sort.ltInt x y = true from hl] at K
                          have hlA : Aside (lt D[i]! D[a]! = true) := by rw [← hxA.out, ← hyA.out]; exact hl
                          clear hl hxA hyA
                          go_wp2_with fail
                          go_quiet (first | (go_at_call 124; exact Calls.quiet_of_same (K _)))
                          have hRq := hR.drewN nq
                          generalize wr.drewN nq = wrq at hRq ⊢
                          clear nq cI cJ K hR
                          go_wp2_with fail
                          go_meet
                          case rel => exact ⟨_, rfl, (show Aside _ from ⟨fun _ => ⟨hle, (by rw [hQ.out, hp.out]; simp [hlA.out])⟩, fun _ => rfl⟩), hRq⟩
                        | false =>
                          rw [show Sort.ltInt x y = false from hl] at K
                          have hlA : Aside (lt D[i]! D[a]! = false) := by rw [← hxA.out, ← hyA.out]; exact hl
                          clear hl hxA hyA
                          go_wp2_with fail
                          go_quiet (first | (go_at_call 124; exact Calls.quiet_of_same (K _)))
                          have hRq := hR.drewN nq
                          generalize wr.drewN nq = wrq at hRq ⊢
                          clear nq cI cJ K hR
                          go_wp2_with fail
                          go_meet
                          case rel => exact ⟨_, rfl, (show Aside _ from ⟨fun e => (by cases e), fun e => absurd e.2 (by rw [hQ.out, hp.out]; simp [hlA.out])⟩), hRq⟩

                      · have hd : decide ((i : Int) ≤ (j : Int)) = false := decide_eq_false (by omega)
                        have hdz : ¬ (i : Int) ≤ (j : Int) := by omega
                        go_wp2_with fail
                        go_region
                        go_wp2_with fail
                        go_meet
                        case rel => exact ⟨_, rfl, (show Aside _ from ⟨fun e => (by cases e), fun e => absurd e.1 hle⟩), hR.drew⟩
                    case rest =>
                      clear hR
                      obtain ⟨bb, rfl, hb, hR⟩ := hcut

                      cases bb with
                      | true =>
                        have hb1 := hb.out.1 rfl
                        go_wp2
                        go_roundg (j + 1 - (i + 1))
                        case measure => have := hb1.1; omega
                        case rel => exact ⟨i + 1, by go_num, Nat.le_refl _, (show Aside _ from by have := hgA.out; simp only [Aside]; omega), hP.out.up hb1.1 hb1.2, hR⟩
                      | false =>
                        have hup : Aside (i ≤ j → q D[i]! = false) := fun e => (by cases hh : q D[i]! with | false => rfl | true => exact absurd (hb.out.2 ⟨e, hh⟩) (by simp))
                        clear hb hg
                        go_wp2
                        go_loopg [11] (j + 1) (fun g s wr => ∃ (j : Nat), s = .int .i64 (j : Int) ∧ j + 1 ≤ g ∧ Aside (j + 1 - i ≤ go) ∧ Aside (Pt a b i j d D p q) ∧ Aside (i ≤ j → q D[i]! = false) ∧ Rw w0 blk cap U D wr)
                        case atStart => exact ⟨j, rfl, Nat.le_refl _, hgA, hP, hup, hR⟩
                        case round =>
                          clear hR hP hup hij hjb hai hp hgA
                          obtain ⟨j, rfl, hg, hgA, hP, hup, hR⟩ := hrel
                          have hjb := hP.out.jb
                          have hai := hP.out.ai
                          have hij := hP.out.ij
                          have hp : Aside (p = D[a]!) := hP.out.pa.symm
                          go_upto_region 15 with fail
                          go_cut [129] from 115 to 129 (fun sb w => ∃ b : Bool, sb = .bool b ∧ Aside (b = true ↔ (i ≤ j ∧ q D[j]! = false)) ∧ Rw w0 blk cap U D w)
                          case first =>
                            by_cases hle : i ≤ j
                            · have hd : decide ((i : Int) ≤ (j : Int)) = true := decide_eq_true (by omega)
                              have hdz : (i : Int) ≤ (j : Int) := by omega
                              have bI : (j : Int) < (n : Int) := by omega
                              have bJ : (a : Int) < (n : Int) := by omega
                              have cI := hR.cell (i := j) (by have := hs.out; omega)
                              have cJ := hR.cell (i := a) (by have := hs.out; omega)
                              obtain ⟨x, hx⟩ : ∃ x, x = D[j]! := ⟨_, rfl⟩
                              obtain ⟨y, hy⟩ : ∃ y, y = D[a]! := ⟨_, rfl⟩
                              have hxA : Aside (x = D[j]!) := hx
                              have hyA : Aside (y = D[a]!) := hy
                              rw [← hx] at cI
                              rw [← hy] at cJ
                              have K := fun w => less_any x y w
                              clear hx hy
                              cases hl : lt x y with
                              | true =>
                                rw [show Sort.ltInt x y = true from hl] at K
                                have hlA : Aside (lt D[j]! D[a]! = true) := by rw [← hxA.out, ← hyA.out]; exact hl
                                clear hl hxA hyA
                                go_wp2_with fail
                                go_quiet (first | (go_at_call 124; exact Calls.quiet_of_same (K _)))
                                have hRq := hR.drewN nq
                                generalize wr.drewN nq = wrq at hRq ⊢
                                clear nq cI cJ K hR
                                go_wp2_with fail
                                go_meet
                                case rel => exact ⟨_, rfl, (show Aside _ from ⟨fun e => (by cases e), fun e => absurd e.2 (by rw [hQ.out, hp.out]; simp [hlA.out])⟩), hRq⟩
                              | false =>
                                rw [show Sort.ltInt x y = false from hl] at K
                                have hlA : Aside (lt D[j]! D[a]! = false) := by rw [← hxA.out, ← hyA.out]; exact hl
                                clear hl hxA hyA
                                go_wp2_with fail
                                go_quiet (first | (go_at_call 124; exact Calls.quiet_of_same (K _)))
                                have hRq := hR.drewN nq
                                generalize wr.drewN nq = wrq at hRq ⊢
                                clear nq cI cJ K hR
                                go_wp2_with fail
                                go_meet
                                case rel => exact ⟨_, rfl, (show Aside _ from ⟨fun _ => ⟨hle, (by rw [hQ.out, hp.out]; simp [hlA.out])⟩, fun _ => rfl⟩), hRq⟩

                            · have hd : decide ((i : Int) ≤ (j : Int)) = false := decide_eq_false (by omega)
                              have hdz : ¬ (i : Int) ≤ (j : Int) := by omega
                              go_wp2_with fail
                              go_region
                              go_wp2_with fail
                              go_meet
                              case rel => exact ⟨_, rfl, (show Aside _ from ⟨fun e => (by cases e), fun e => absurd e.1 hle⟩), hR.drew⟩
                          case rest =>
                            clear hR
                            obtain ⟨bb, rfl, hb, hR⟩ := hcut

                            cases bb with
                            | true =>
                              have hb1 := hb.out.1 rfl
                              go_wp2
                              go_roundg (j - 1 + 1)
                              case measure => have := hb1.1; omega
                              case rel => exact ⟨j - 1, by go_num, Nat.le_refl _, (show Aside _ from by have := hgA.out; simp only [Aside]; omega), hP.out.down hb1.1 hb1.2, (show Aside _ from fun e => hup.out (by omega)), hR⟩
                            | false =>
                              have hdn : Aside (i ≤ j → q D[j]! = true) := fun e => (by cases hh : q D[j]! with | true => rfl | false => exact absurd (hb.out.2 ⟨e, hh⟩) (by simp))
                              clear hb hg
                              by_cases hlt : i ≤ j
                              · have hlz : ¬ (j : Int) < (i : Int) := by omega
                                have hPs := hP.out.swap (by have := hs.out; have := hb0.out; omega) hlt (hup.out hlt) (hdn.out hlt)
                                go_wp2_with fail
                                have bI2 : (i : Int) < (n : Int) := by omega
                                have bJ2 : (j : Int) < (n : Int) := by omega
                                have cI2 := hR.cell (i := i) (by have := hs.out; omega)
                                have cJ2 := hR.cell (i := j) (by have := hs.out; omega)
                                have fI2 := hR.free i
                                have fJ2 := hR.free j
                                have hRs := (hR.swp i j (by have := hs.out; omega) (by have := hs.out; omega)).drew
                                obtain ⟨u2, cU2⟩ := hR.cell2 i j (by have := hs.out; omega) (by have := hs.out; omega) D[j]!
                                generalize D[i]! = x2 at cI2 hRs
                                generalize D[j]! = y2 at cJ2 cU2 hRs
                                go_wp2_with fail
                                go_region
                                generalize ((wc.setCell ⟨blk, i, none⟩ (.int .u32 y2)).setCell ⟨blk, j, none⟩ (.int .u32 x2)).drew = wcs at hRs ⊢
                                clear cI2 cJ2 fI2 fJ2 cU2 hR
                                go_wp2
                                go_roundg (j - 1 + 1 - (i + 1))
                                case measure => have := hgA.out; have := hiA.out; omega
                                case rel => exact ⟨i + 1, j - 1, _, by go_num, by go_num, Nat.le_refl _, (show Aside _ from by rw [size_swp]; exact hs.out), hPs, hRs⟩
                              · have hlz : (j : Int) < (i : Int) := by omega
                                have hF := hP.out.fin hQ.out (by have := hs.out; have := hb0.out; omega) hlt
                                go_wp2_with fail

                                have bI2 : (j : Int) < (n : Int) := by omega
                                have bJ2 : (a : Int) < (n : Int) := by omega
                                have cI2 := hR.cell (i := j) (by have := hs.out; omega)
                                have cJ2 := hR.cell (i := a) (by have := hs.out; omega)
                                have fI2 := hR.free j
                                have fJ2 := hR.free a
                                have hRs := (hR.swp j a (by have := hs.out; omega) (by have := hs.out; omega)).drew
                                obtain ⟨u2, cU2⟩ := hR.cell2 j a (by have := hs.out; omega) (by have := hs.out; omega) D[a]!
                                generalize D[j]! = x2 at cI2 hRs
                                generalize D[a]! = y2 at cJ2 cU2 hRs
                                go_wp2_with fail
                                go_region
                                generalize ((wc.setCell ⟨blk, j, none⟩ (.int .u32 y2)).setCell ⟨blk, a, none⟩ (.int .u32 x2)).drew = wcs at hRs ⊢
                                clear cI2 cJ2 fI2 fJ2 cU2 hR
                                go_wp2
                                go_ret2
                                exact ⟨j, false, _, rfl, hF, hRs⟩
              · have hlz : (j : Int) < (i : Int) := by omega
                have hF := hP.out.fin hQ.out (by have := hs.out; have := hb0.out; omega) hlt
                go_wp2_with fail
                have bI1 : (j : Int) < (n : Int) := by omega
                have bJ1 : (a : Int) < (n : Int) := by omega
                have cI1 := hR.cell (i := j) (by have := hs.out; omega)
                have cJ1 := hR.cell (i := a) (by have := hs.out; omega)
                have fI1 := hR.free j
                have fJ1 := hR.free a
                have hRs := (hR.swp j a (by have := hs.out; omega) (by have := hs.out; omega)).drew
                obtain ⟨u1, cU1⟩ := hR.cell2 j a (by have := hs.out; omega) (by have := hs.out; omega) D[a]!
                generalize D[j]! = x1 at cI1 hRs
                generalize D[a]! = y1 at cJ1 cU1 hRs
                go_wp2_with fail
                go_region
                generalize ((wc.setCell ⟨blk, j, none⟩ (.int .u32 y1)).setCell ⟨blk, a, none⟩ (.int .u32 x1)).drew = wcs at hRs ⊢
                clear cI1 cJ1 fI1 fJ1 cU1 hR
                go_wp2
                go_ret2
                exact ⟨j, true, _, rfl, hF, hRs⟩

set_option maxHeartbeats 16000000 in
set_option maxRecDepth 100000 in
theorem parteq_any {w0 w : World} {blk cap n : Nat} {U : Nat → Value} {d : Array Int} (h : Rw w0 blk cap U d w) (hn : d.size = n) (hsz : n < 4611686018427387904) (a b piv : Nat) (hap : a ≤ piv) (hpb : piv < b) (hb : b ≤ n) :
    Calls Tryz.prog 125 #[.slice (some ⟨blk, 0, none⟩) n cap, .int .i64 (a : Int), .int .i64 (b : Int), .int .i64 (piv : Int)] w fun e w' => ∃ (m : Nat) (D : Array Int), e = .returned (.int .i64 (m : Int)) ∧ Even a b m d[piv]! d D ∧ Rw w0 blk cap U D w' := by
  have hs0 : Aside (d.size = n) := hn
  have hP0 : Aside (Pt a b (a + 1) (b - 1) d (Sort.swp d a piv) d[piv]! (fun x => !lt d[piv]! x)) := Pt.start a b piv d _ hap hpb (by omega)
  have hR := h
  clear h hn
  go_enter Tryz.func125, Tryz.ntmps125
  go_wp2_with fail
  have bI : (a : Int) < (n : Int) := by omega
  have bJ : (piv : Int) < (n : Int) := by omega
  have cI := hR.cell (i := a) (by have := hs0.out; omega)
  have cJ := hR.cell (i := piv) (by have := hs0.out; omega)
  have fI := hR.free a
  have fJ := hR.free piv
  have hRs := (hR.swp a piv (by have := hs0.out; omega) (by have := hs0.out; omega)).drew
  obtain ⟨u, cU⟩ := hR.cell2 a piv (by have := hs0.out; omega) (by have := hs0.out; omega) d[piv]!
  generalize d[a]! = x at cI hRs
  generalize d[piv]! = y at cJ cU hRs
  go_wp2_with fail
  go_region
  generalize ((w.setCell ⟨blk, a, none⟩ (.int .u32 y)).setCell ⟨blk, piv, none⟩ (.int .u32 x)).drew = ws at hRs ⊢
  clear cI cJ fI fJ cU hR
  obtain ⟨p, hpd⟩ : ∃ p, p = d[piv]! := ⟨_, rfl⟩
  obtain ⟨q, hqd⟩ : ∃ q : Int → Bool, q = fun x => !lt p x := ⟨_, rfl⟩
  have hQ : Aside (∀ x, q x = !lt p x) := fun x => by rw [hqd]
  rw [← hpd, ← hqd] at hP0
  have hpA : Aside (p = d[piv]!) := hpd
  have hs1 : Aside ((Sort.swp d a piv).size = n) := by rw [size_swp]; exact hs0.out
  generalize Sort.swp d a piv = D1 at hP0 hs1 hRs
  have hb0 : Aside (b ≤ n) := hb
  clear hpd hqd
  go_wp2
  go_loopg [9, 10] (b + 1) (fun g s1 s2 wr => ∃ (i j : Nat) (D : Array Int), s1 = .int .i64 (i : Int) ∧ s2 = .int .i64 (j : Int) ∧ j + 1 - i ≤ g ∧ Aside (D.size = n) ∧ Aside (Pt a b i j d D p q) ∧ Rw w0 blk cap U D wr)
  case atStart => exact ⟨a + 1, b - 1, D1, by go_num, by go_num, by omega, hs1, hP0, hRs⟩
  case round =>
    clear hRs hP0 hs1
    obtain ⟨i, j, D, rfl, rfl, hg0, hs, hP, hR⟩ := hrel
    obtain ⟨go, hgo⟩ : ∃ go, go = gk := ⟨_, rfl⟩
    have hgA : Aside (j + 1 - i ≤ go) := (by omega : j + 1 - i ≤ go)
    have hiA : Aside (go = gk) := hgo
    clear hg0 hgo
    go_wp2
    go_loopg [9] (j + 1) (fun g s wr => ∃ (i : Nat), s = .int .i64 (i : Int) ∧ j + 1 - i ≤ g ∧ Aside (j + 1 - i ≤ go) ∧ Aside (Pt a b i j d D p q) ∧ Rw w0 blk cap U D wr)
    case atStart => exact ⟨i, rfl, by omega, hgA, hP, hR⟩
    case round =>
      clear hR hP hgA
      obtain ⟨i, rfl, hg, hgA, hP, hR⟩ := hrel
      have hjb := hP.out.jb
      have hai := hP.out.ai
      have hij := hP.out.ij
      have hp : Aside (p = D[a]!) := hP.out.pa.symm
      go_upto_region 3 with fail
      go_cut [43] from 29 to 43 (fun sb w => ∃ b : Bool, sb = .bool b ∧ Aside (b = true ↔ (i ≤ j ∧ q D[i]! = true)) ∧ Rw w0 blk cap U D w)
      case first =>
        by_cases hle : i ≤ j
        · have hd : decide ((i : Int) ≤ (j : Int)) = true := decide_eq_true (by omega)
          have hdz : (i : Int) ≤ (j : Int) := by omega
          have bI : (a : Int) < (n : Int) := by omega
          have bJ : (i : Int) < (n : Int) := by omega
          have cI := hR.cell (i := a) (by have := hs.out; omega)
          have cJ := hR.cell (i := i) (by have := hs.out; omega)
          obtain ⟨x, hx⟩ : ∃ x, x = D[a]! := ⟨_, rfl⟩
          obtain ⟨y, hy⟩ : ∃ y, y = D[i]! := ⟨_, rfl⟩
          have hxA : Aside (x = D[a]!) := hx
          have hyA : Aside (y = D[i]!) := hy
          rw [← hx] at cI
          rw [← hy] at cJ
          have K := fun w => less_any x y w
          clear hx hy
          cases hl : lt x y with
          | true =>
            rw [show Sort.ltInt x y = true from hl] at K
            have hlA : Aside (lt D[a]! D[i]! = true) := by rw [← hxA.out, ← hyA.out]; exact hl
            clear hl hxA hyA
            go_wp2_with fail
            go_quiet (first | (go_at_call 124; exact Calls.quiet_of_same (K _)))
            have hRq := hR.drewN nq
            generalize wr.drewN nq = wrq at hRq ⊢
            clear nq cI cJ K hR
            go_wp2_with fail
            go_meet
            case rel => exact ⟨_, rfl, (show Aside _ from ⟨fun e => (by cases e), fun e => absurd e.2 (by rw [hQ.out, hp.out]; simp [hlA.out])⟩), hRq⟩
          | false =>
            rw [show Sort.ltInt x y = false from hl] at K
            have hlA : Aside (lt D[a]! D[i]! = false) := by rw [← hxA.out, ← hyA.out]; exact hl
            clear hl hxA hyA
            go_wp2_with fail
            go_quiet (first | (go_at_call 124; exact Calls.quiet_of_same (K _)))
            have hRq := hR.drewN nq
            generalize wr.drewN nq = wrq at hRq ⊢
            clear nq cI cJ K hR
            go_wp2_with fail
            go_meet
            case rel => exact ⟨_, rfl, (show Aside _ from ⟨fun _ => ⟨hle, (by rw [hQ.out, hp.out]; simp [hlA.out])⟩, fun _ => rfl⟩), hRq⟩

        · have hd : decide ((i : Int) ≤ (j : Int)) = false := decide_eq_false (by omega)
          have hdz : ¬ (i : Int) ≤ (j : Int) := by omega
          go_wp2_with fail
          go_region
          go_wp2_with fail
          go_meet
          case rel => exact ⟨_, rfl, (show Aside _ from ⟨fun e => (by cases e), fun e => absurd e.1 hle⟩), hR.drew⟩
      case rest =>
        clear hR
        obtain ⟨bb, rfl, hb, hR⟩ := hcut

        cases bb with
        | true =>
          have hb1 := hb.out.1 rfl
          go_wp2
          go_roundg (j + 1 - (i + 1))
          case measure => have := hb1.1; omega
          case rel => exact ⟨i + 1, by go_num, Nat.le_refl _, (show Aside _ from by have := hgA.out; simp only [Aside]; omega), hP.out.up hb1.1 hb1.2, hR⟩
        | false =>
          have hup : Aside (i ≤ j → q D[i]! = false) := fun e => (by cases hh : q D[i]! with | false => rfl | true => exact absurd (hb.out.2 ⟨e, hh⟩) (by simp))
          clear hb hg
          go_wp2
          go_loopg [10] (j + 1) (fun g s wr => ∃ (j : Nat), s = .int .i64 (j : Int) ∧ j + 1 ≤ g ∧ Aside (j + 1 - i ≤ go) ∧ Aside (Pt a b i j d D p q) ∧ Aside (i ≤ j → q D[i]! = false) ∧ Rw w0 blk cap U D wr)
          case atStart => exact ⟨j, rfl, Nat.le_refl _, hgA, hP, hup, hR⟩
          case round =>
            clear hR hP hup hij hjb hai hp hgA
            obtain ⟨j, rfl, hg, hgA, hP, hup, hR⟩ := hrel
            have hjb := hP.out.jb
            have hai := hP.out.ai
            have hij := hP.out.ij
            have hp : Aside (p = D[a]!) := hP.out.pa.symm
            go_upto_region 5 with fail
            go_cut [59] from 46 to 59 (fun sb w => ∃ b : Bool, sb = .bool b ∧ Aside (b = true ↔ (i ≤ j ∧ q D[j]! = false)) ∧ Rw w0 blk cap U D w)
            case first =>
              by_cases hle : i ≤ j
              · have hd : decide ((i : Int) ≤ (j : Int)) = true := decide_eq_true (by omega)
                have hdz : (i : Int) ≤ (j : Int) := by omega
                have bI : (a : Int) < (n : Int) := by omega
                have bJ : (j : Int) < (n : Int) := by omega
                have cI := hR.cell (i := a) (by have := hs.out; omega)
                have cJ := hR.cell (i := j) (by have := hs.out; omega)
                obtain ⟨x, hx⟩ : ∃ x, x = D[a]! := ⟨_, rfl⟩
                obtain ⟨y, hy⟩ : ∃ y, y = D[j]! := ⟨_, rfl⟩
                have hxA : Aside (x = D[a]!) := hx
                have hyA : Aside (y = D[j]!) := hy
                rw [← hx] at cI
                rw [← hy] at cJ
                have K := fun w => less_any x y w
                clear hx hy
                cases hl : lt x y with
                | true =>
                  rw [show Sort.ltInt x y = true from hl] at K
                  have hlA : Aside (lt D[a]! D[j]! = true) := by rw [← hxA.out, ← hyA.out]; exact hl
                  clear hl hxA hyA
                  go_wp2_with fail
                  go_quiet (first | (go_at_call 124; exact Calls.quiet_of_same (K _)))
                  have hRq := hR.drewN nq
                  generalize wr.drewN nq = wrq at hRq ⊢
                  clear nq cI cJ K hR
                  go_wp2_with fail
                  go_meet
                  case rel => exact ⟨_, rfl, (show Aside _ from ⟨fun _ => ⟨hle, (by rw [hQ.out, hp.out]; simp [hlA.out])⟩, fun _ => rfl⟩), hRq⟩
                | false =>
                  rw [show Sort.ltInt x y = false from hl] at K
                  have hlA : Aside (lt D[a]! D[j]! = false) := by rw [← hxA.out, ← hyA.out]; exact hl
                  clear hl hxA hyA
                  go_wp2_with fail
                  go_quiet (first | (go_at_call 124; exact Calls.quiet_of_same (K _)))
                  have hRq := hR.drewN nq
                  generalize wr.drewN nq = wrq at hRq ⊢
                  clear nq cI cJ K hR
                  go_wp2_with fail
                  go_meet
                  case rel => exact ⟨_, rfl, (show Aside _ from ⟨fun e => (by cases e), fun e => absurd e.2 (by rw [hQ.out, hp.out]; simp [hlA.out])⟩), hRq⟩

              · have hd : decide ((i : Int) ≤ (j : Int)) = false := decide_eq_false (by omega)
                have hdz : ¬ (i : Int) ≤ (j : Int) := by omega
                go_wp2_with fail
                go_region
                go_wp2_with fail
                go_meet
                case rel => exact ⟨_, rfl, (show Aside _ from ⟨fun e => (by cases e), fun e => absurd e.1 hle⟩), hR.drew⟩
            case rest =>
              clear hR
              obtain ⟨bb, rfl, hb, hR⟩ := hcut

              cases bb with
              | true =>
                have hb1 := hb.out.1 rfl
                go_wp2
                go_roundg (j - 1 + 1)
                case measure => have := hb1.1; omega
                case rel => exact ⟨j - 1, by go_num, Nat.le_refl _, (show Aside _ from by have := hgA.out; simp only [Aside]; omega), hP.out.down hb1.1 hb1.2, (show Aside _ from fun e => hup.out (by omega)), hR⟩
              | false =>
                have hdn : Aside (i ≤ j → q D[j]! = true) := fun e => (by cases hh : q D[j]! with | true => rfl | false => exact absurd (hb.out.2 ⟨e, hh⟩) (by simp))
                clear hb hg
                by_cases hlt : i ≤ j
                · have hlz : ¬ (j : Int) < (i : Int) := by omega
                  have hPs := hP.out.swap (by have := hs.out; have := hb0.out; omega) hlt (hup.out hlt) (hdn.out hlt)
                  go_wp2_with fail
                  have bI2 : (i : Int) < (n : Int) := by omega
                  have bJ2 : (j : Int) < (n : Int) := by omega
                  have cI2 := hR.cell (i := i) (by have := hs.out; omega)
                  have cJ2 := hR.cell (i := j) (by have := hs.out; omega)
                  have fI2 := hR.free i
                  have fJ2 := hR.free j
                  have hRs := (hR.swp i j (by have := hs.out; omega) (by have := hs.out; omega)).drew
                  obtain ⟨u2, cU2⟩ := hR.cell2 i j (by have := hs.out; omega) (by have := hs.out; omega) D[j]!
                  generalize D[i]! = x2 at cI2 hRs
                  generalize D[j]! = y2 at cJ2 cU2 hRs
                  go_wp2_with fail
                  go_region
                  generalize ((wc.setCell ⟨blk, i, none⟩ (.int .u32 y2)).setCell ⟨blk, j, none⟩ (.int .u32 x2)).drew = wcs at hRs ⊢
                  clear cI2 cJ2 fI2 fJ2 cU2 hR
                  go_wp2
                  go_roundg (j - 1 + 1 - (i + 1))
                  case measure => have := hgA.out; have := hiA.out; omega
                  case rel => exact ⟨i + 1, j - 1, _, by go_num, by go_num, Nat.le_refl _, (show Aside _ from by rw [size_swp]; exact hs.out), hPs, hRs⟩
                · have hlz : (j : Int) < (i : Int) := by omega
                  go_wp2
                  go_ret
                  exact ⟨i, D, rfl, (by rw [← hpA.out]; exact hP.out.even hQ.out hlt), hR⟩
end Go.Proofs.YteickckgljlacaaGreat.Rs

namespace Go.Proofs.YteickckgljlacaaGreat.Rs
open Go Go.RowKit

theorem sift_end (hi first root : Nat) (D : Array Int) (h : hi ≤ 2 * root + 1) : Sort.siftDown lt hi first root D = D := by
  rw [Sort.siftDown, dif_pos h]
/-- The child that is taken. -/
def kid (hi first root : Nat) (D : Array Int) : Nat := if 2 * root + 2 < hi ∧ lt D[first + (2 * root + 1)]! D[first + (2 * root + 2)]! = true then 2 * root + 2 else 2 * root + 1
theorem sift_go (hi first root : Nat) (D : Array Int) (h : ¬ hi ≤ 2 * root + 1) :
    Sort.siftDown lt hi first root D = if lt D[first + root]! D[first + kid hi first root D]! = true then Sort.siftDown lt hi first (kid hi first root D) (Sort.swp D (first + root) (first + kid hi first root D)) else D := by
  rw [Sort.siftDown, dif_neg h]
  unfold kid
  by_cases c : 2 * root + 2 < hi ∧ lt D[first + (2 * root + 1)]! D[first + (2 * root + 2)]! = true
  · rw [if_pos c, if_pos]
    · cases hl : lt D[first + root]! D[first + (2 * root + 2)]! with
      | true => simp [c.1]
      | false => simp
    · have c2 := c.2
      rw [show first + (2 * root + 2) = first + (2 * root + 1) + 1 by omega] at c2
      simp only [Bool.and_eq_true, decide_eq_true_eq]
      exact ⟨by omega, c2⟩
  · rw [if_neg c, if_neg]
    · cases hl : lt D[first + root]! D[first + (2 * root + 1)]! with
      | true => simp
      | false => simp
    · simp only [Bool.and_eq_true, decide_eq_true_eq]
      intro e
      exact c ⟨by omega, by rw [show first + (2 * root + 2) = first + (2 * root + 1) + 1 by omega]; exact e.2⟩

set_option maxHeartbeats 16000000 in
set_option maxRecDepth 100000 in
theorem sift_any {w0 w : World} {blk cap n : Nat} {U : Nat → Value} {d : Array Int} (h : Rw w0 blk cap U d w) (hn : d.size = n) (hsz : n < 4611686018427387904) (lo hi first : Nat) (hb : first + hi ≤ n) (hlo : lo ≤ n) :
    Calls Tryz.prog 142 #[.slice (some ⟨blk, 0, none⟩) n cap, .int .i64 (lo : Int), .int .i64 (hi : Int), .int .i64 (first : Int)] w fun e w' => e = .returned (.tuple #[]) ∧ Rw w0 blk cap U (Sort.siftDown lt hi first lo d) w' := by
  have hb0 : Aside (first + hi ≤ n) := hb
  have hs0 : Aside (d.size = n) := hn
  have hR0 := h
  clear h hn
  go_enter Tryz.func142, Tryz.ntmps142
  go_wp2
  go_loopg [8] (hi + n + 1) (fun g s wr => ∃ (root : Nat) (D : Array Int), s = .int .i64 (root : Int) ∧ hi + n + 1 - root ≤ g ∧ root ≤ n ∧ Aside (D.size = n) ∧ Aside (Sort.siftDown lt hi first lo d = Sort.siftDown lt hi first root D) ∧ Rw w0 blk cap U D wr)
  case atStart => exact ⟨lo, d, rfl, by omega, hlo, hs0, rfl, hR0⟩
  case round =>
    clear hR0
    obtain ⟨root, D, rfl, hg, hrn, hs, hE, hR⟩ := hrel
    obtain ⟨c, hc⟩ : ∃ c : Nat, 2 * (root : Int) + 1 = (c : Int) := ⟨2 * root + 1, by omega⟩
    have hcA : Aside (c = 2 * root + 1) := (by omega : c = 2 * root + 1)
    by_cases hch : c < hi
    · have hcz : ¬ (hi : Int) ≤ (c : Int) := by omega
      have hcz' : (c : Int) < (hi : Int) := by omega
      obtain ⟨c1, hc1⟩ : ∃ c1 : Nat, (c : Int) + 1 = (c1 : Int) := ⟨c + 1, by omega⟩
      have hc1A : Aside (c1 = 2 * root + 2) := (by omega : c1 = 2 * root + 2)
      obtain ⟨pc, hpc⟩ : ∃ pc : Nat, (first : Int) + (c : Int) = (pc : Int) := ⟨first + c, by omega⟩
      obtain ⟨pd, hpd⟩ : ∃ pd : Nat, (pc : Int) + 1 = (pd : Int) := ⟨pc + 1, by omega⟩
      have hpA : Aside (pc = first + (2 * root + 1) ∧ pd = first + (2 * root + 2)) := (by omega : pc = first + (2 * root + 1) ∧ pd = first + (2 * root + 2))
      have hgA : Aside (hi + n + 1 - root ≤ gk) := hg
      have hcut2 : True := trivial
      go_upto_region 3 with fail
      go_cut [36] from 17 to 36 (fun sb w => ∃ b : Bool, sb = .bool b ∧ Aside ((if b = true then c1 else c) = kid hi first root D) ∧ Rw w0 blk cap U D w)
      case first =>
        by_cases hlt : c1 < hi
        · have hltz : (c1 : Int) < (hi : Int) := by omega
          have hd : decide ((c1 : Int) < (hi : Int)) = true := decide_eq_true hltz
          have bI : (pc : Int) < (n : Int) := by omega
          have bJ : (pd : Int) < (n : Int) := by omega
          have cI := hR.cell (i := pc) (by have := hs.out; omega)
          have cJ := hR.cell (i := pd) (by have := hs.out; omega)
          obtain ⟨x, hx⟩ : ∃ x, x = D[pc]! := ⟨_, rfl⟩
          obtain ⟨y, hy⟩ : ∃ y, y = D[pd]! := ⟨_, rfl⟩
          have hxA : Aside (x = D[pc]!) := hx
          have hyA : Aside (y = D[pd]!) := hy
          rw [← hx] at cI
          rw [← hy] at cJ
          have K := fun w => less_any x y w
          clear hx hy
          cases hl : lt x y with
          | true =>
            rw [show Sort.ltInt x y = true from hl] at K
            have hlA : Aside (lt D[pc]! D[pd]! = true) := by rw [← hxA.out, ← hyA.out]; exact hl
            clear hl hxA hyA
            go_wp2_with fail
            go_quiet (first | (go_at_call 124; exact Calls.quiet_of_same (K _)))
            have hRq := hR.drewN nq
            generalize wr.drewN nq = wrq at hRq ⊢
            clear nq cI cJ K hR
            go_wp2_with fail
            go_meet
            case rel => exact ⟨true, rfl, (show Aside _ from by show _ = _; have h1 := hc1A.out; have h2 := hpA.out; rw [kid, if_pos rfl, if_pos ⟨by omega, by rw [← h2.1, ← h2.2]; exact hlA.out⟩, h1]), hRq⟩
          | false =>
            rw [show Sort.ltInt x y = false from hl] at K
            have hlA : Aside (lt D[pc]! D[pd]! = false) := by rw [← hxA.out, ← hyA.out]; exact hl
            clear hl hxA hyA
            go_wp2_with fail
            go_quiet (first | (go_at_call 124; exact Calls.quiet_of_same (K _)))
            have hRq := hR.drewN nq
            generalize wr.drewN nq = wrq at hRq ⊢
            clear nq cI cJ K hR
            go_wp2_with fail
            go_meet
            case rel => exact ⟨false, rfl, (show Aside _ from by show _ = _; have h1 := hcA.out; have h2 := hpA.out; rw [kid, if_neg (by simp), if_neg (fun e => by have := e.2; rw [← h2.1, ← h2.2, hlA.out] at this; cases this), h1]), hRq⟩

        · have hltz : ¬ (c1 : Int) < (hi : Int) := by omega
          have hd : decide ((c1 : Int) < (hi : Int)) = false := decide_eq_false hltz
          go_wp2_with fail
          go_region
          go_wp2_with fail
          go_meet
          case rel => exact ⟨false, rfl, (show Aside _ from by show _ = _; have h1 := hcA.out; have h2 := hc1A.out; rw [kid, if_neg (by simp), if_neg (fun e => by have := e.1; omega), h1]), hR.drew⟩
      case rest =>
        clear hR
        obtain ⟨bb, rfl, hk, hR⟩ := hcut
        obtain ⟨pr, hpr⟩ : ∃ pr : Nat, (first : Int) + (root : Int) = (pr : Int) := ⟨first + root, by omega⟩
        have hprA : Aside (pr = first + root) := (by omega : pr = first + root)
        cases bb with
        | true =>
          have hk' : Aside (c1 = kid hi first root D) := by have := hk.out; rw [if_pos rfl] at this; exact this
          have hvA : Aside (root < c1 ∧ c1 ≤ n ∧ c1 < hi ∧ pd = first + c1) := by
            have h1 := hk'.out
            have h2 := hcA.out
            have h3 := hc1A.out
            have h4 := hpA.out
            have h5 := hb0.out
            have h6 : kid hi first root D < hi := by unfold kid; split <;> omega
            simp only [Aside]
            omega
          clear hk
          have := hvA.out
          have hpz : (first : Int) + (c1 : Int) = (pd : Int) := by omega
          clear this
          have hlo1 : (pd : Int) < (n : Int) := by have := hvA.out; have := hb0.out; omega
          have hlo2 : (pr : Int) < (n : Int) := by have := hvA.out; have := hb0.out; have := hprA.out; omega

          have bI : (pr : Int) < (n : Int) := by omega
          have bJ : (pd : Int) < (n : Int) := by omega
          have cI := hR.cell (i := pr) (by have := hs.out; omega)
          have cJ := hR.cell (i := pd) (by have := hs.out; omega)
          obtain ⟨x, hx⟩ : ∃ x, x = D[pr]! := ⟨_, rfl⟩
          obtain ⟨y, hy⟩ : ∃ y, y = D[pd]! := ⟨_, rfl⟩
          have hxA : Aside (x = D[pr]!) := hx
          have hyA : Aside (y = D[pd]!) := hy
          rw [← hx] at cI
          rw [← hy] at cJ
          have K := fun w => less_any x y w
          clear hx hy
          cases hl : lt x y with
          | true =>
            rw [show Sort.ltInt x y = true from hl] at K
            have hlA : Aside (lt D[pr]! D[pd]! = true) := by rw [← hxA.out, ← hyA.out]; exact hl
            clear hl hxA hyA
            go_wp2_with fail
            go_quiet (first | (go_at_call 124; exact Calls.quiet_of_same (K _)))
            have hRq := hR.drewN nq
            generalize wc.drewN nq = wcq at hRq ⊢
            clear nq cI cJ K hR
            go_wp2_with fail

            have bI2 : (pr : Int) < (n : Int) := by omega
            have bJ2 : (pd : Int) < (n : Int) := by omega
            have cI2 := hRq.cell (i := pr) (by have := hs.out; omega)
            have cJ2 := hRq.cell (i := pd) (by have := hs.out; omega)
            have fI2 := hRq.free pr
            have fJ2 := hRq.free pd
            have hRqs := (hRq.swp pr pd (by have := hs.out; omega) (by have := hs.out; omega)).drew
            obtain ⟨u2, cU2⟩ := hRq.cell2 pr pd (by have := hs.out; omega) (by have := hs.out; omega) D[pd]!
            generalize D[pr]! = x2 at cI2 hRqs
            generalize D[pd]! = y2 at cJ2 cU2 hRqs
            go_wp2_with fail
            go_region
            generalize ((wcq.setCell ⟨blk, pr, none⟩ (.int .u32 y2)).setCell ⟨blk, pd, none⟩ (.int .u32 x2)).drew = wcqs at hRqs ⊢
            clear cI2 cJ2 fI2 fJ2 cU2 hRq
            go_wp2
            go_roundg (hi + n + 1 - c1)
            case measure => have := hgA.out; have := hvA.out; omega
            case rel =>
              refine ⟨c1, _, rfl, Nat.le_refl _, hvA.out.2.1, (show Aside _ from by rw [size_swp]; exact hs.out), (show Aside _ from ?_), hRqs⟩
              show _ = _
              have h1 := hprA.out
              have h2 := hvA.out
              have h3 := hlA.out
              have h4 := hcA.out
              rw [hE.out, sift_go hi first root D (by omega), ← hk'.out, ← h1, ← h2.2.2.2, if_pos h3]
          | false =>
            rw [show Sort.ltInt x y = false from hl] at K
            have hlA : Aside (lt D[pr]! D[pd]! = false) := by rw [← hxA.out, ← hyA.out]; exact hl
            clear hl hxA hyA
            go_wp2_with fail
            go_quiet (first | (go_at_call 124; exact Calls.quiet_of_same (K _)))
            have hRq := hR.drewN nq
            generalize wc.drewN nq = wcq at hRq ⊢
            clear nq cI cJ K hR
            go_wp2
            refine bodyPost_ret (results_none rfl _ _ _) rfl ?_
            refine ⟨rfl, ?_⟩
            have h1 := hprA.out
            have h2 := hvA.out
            have h3 := hlA.out
            have h4 := hcA.out
            rw [hE.out, sift_go hi first root D (by omega), ← hk'.out, ← h1, ← h2.2.2.2, h3]
            simpa using hRq
        | false =>
          have hk' : Aside (c = kid hi first root D) := by have := hk.out; rw [if_neg (by simp)] at this; exact this
          have hvA : Aside (root < c ∧ c ≤ n ∧ c < hi ∧ pc = first + c) := by
            have h1 := hk'.out
            have h2 := hcA.out
            have h3 := hc1A.out
            have h4 := hpA.out
            have h5 := hb0.out
            have h6 : kid hi first root D < hi := by unfold kid; split <;> omega
            simp only [Aside]
            omega
          clear hk
          have := hvA.out
          have hpz : (first : Int) + (c : Int) = (pc : Int) := by omega
          clear this
          have hlo1 : (pc : Int) < (n : Int) := by have := hvA.out; have := hb0.out; omega
          have hlo2 : (pr : Int) < (n : Int) := by have := hvA.out; have := hb0.out; have := hprA.out; omega

          have bI : (pr : Int) < (n : Int) := by omega
          have bJ : (pc : Int) < (n : Int) := by omega
          have cI := hR.cell (i := pr) (by have := hs.out; omega)
          have cJ := hR.cell (i := pc) (by have := hs.out; omega)
          obtain ⟨x, hx⟩ : ∃ x, x = D[pr]! := ⟨_, rfl⟩
          obtain ⟨y, hy⟩ : ∃ y, y = D[pc]! := ⟨_, rfl⟩
          have hxA : Aside (x = D[pr]!) := hx
          have hyA : Aside (y = D[pc]!) := hy
          rw [← hx] at cI
          rw [← hy] at cJ
          have K := fun w => less_any x y w
          clear hx hy
          cases hl : lt x y with
          | true =>
            rw [show Sort.ltInt x y = true from hl] at K
            have hlA : Aside (lt D[pr]! D[pc]! = true) := by rw [← hxA.out, ← hyA.out]; exact hl
            clear hl hxA hyA
            go_wp2_with fail
            go_quiet (first | (go_at_call 124; exact Calls.quiet_of_same (K _)))
            have hRq := hR.drewN nq
            generalize wc.drewN nq = wcq at hRq ⊢
            clear nq cI cJ K hR
            go_wp2_with fail

            have bI2 : (pr : Int) < (n : Int) := by omega
            have bJ2 : (pc : Int) < (n : Int) := by omega
            have cI2 := hRq.cell (i := pr) (by have := hs.out; omega)
            have cJ2 := hRq.cell (i := pc) (by have := hs.out; omega)
            have fI2 := hRq.free pr
            have fJ2 := hRq.free pc
            have hRqs := (hRq.swp pr pc (by have := hs.out; omega) (by have := hs.out; omega)).drew
            obtain ⟨u2, cU2⟩ := hRq.cell2 pr pc (by have := hs.out; omega) (by have := hs.out; omega) D[pc]!
            generalize D[pr]! = x2 at cI2 hRqs
            generalize D[pc]! = y2 at cJ2 cU2 hRqs
            go_wp2_with fail
            go_region
            generalize ((wcq.setCell ⟨blk, pr, none⟩ (.int .u32 y2)).setCell ⟨blk, pc, none⟩ (.int .u32 x2)).drew = wcqs at hRqs ⊢
            clear cI2 cJ2 fI2 fJ2 cU2 hRq
            go_wp2
            go_roundg (hi + n + 1 - c)
            case measure => have := hgA.out; have := hvA.out; omega
            case rel =>
              refine ⟨c, _, rfl, Nat.le_refl _, hvA.out.2.1, (show Aside _ from by rw [size_swp]; exact hs.out), (show Aside _ from ?_), hRqs⟩
              show _ = _
              have h1 := hprA.out
              have h2 := hvA.out
              have h3 := hlA.out
              have h4 := hcA.out
              rw [hE.out, sift_go hi first root D (by omega), ← hk'.out, ← h1, ← h2.2.2.2, if_pos h3]
          | false =>
            rw [show Sort.ltInt x y = false from hl] at K
            have hlA : Aside (lt D[pr]! D[pc]! = false) := by rw [← hxA.out, ← hyA.out]; exact hl
            clear hl hxA hyA
            go_wp2_with fail
            go_quiet (first | (go_at_call 124; exact Calls.quiet_of_same (K _)))
            have hRq := hR.drewN nq
            generalize wc.drewN nq = wcq at hRq ⊢
            clear nq cI cJ K hR
            go_wp2
            refine bodyPost_ret (results_none rfl _ _ _) rfl ?_
            refine ⟨rfl, ?_⟩
            have h1 := hprA.out
            have h2 := hvA.out
            have h3 := hlA.out
            have h4 := hcA.out
            rw [hE.out, sift_go hi first root D (by omega), ← hk'.out, ← h1, ← h2.2.2.2, h3]
            simpa using hRq
    · have hcz : (hi : Int) ≤ (c : Int) := by omega
      go_wp2
      go_end0
      refine ⟨rfl, ?_⟩
      rw [hE.out, sift_end hi first root D (by have := hcA.out; omega)]
      exact hR

theorem size_sift (hi first : Nat) : ∀ (m root : Nat) (D : Array Int), hi - root ≤ m → (Sort.siftDown lt hi first root D).size = D.size := by
  intro m
  induction m with
  | zero => intro root D h; rw [sift_end hi first root D (by omega)]
  | succ m ih =>
    intro root D h
    by_cases c : hi ≤ 2 * root + 1
    · rw [sift_end hi first root D c]
    · rw [sift_go hi first root D c]
      split
      · rw [ih _ _ (by unfold kid; split <;> omega), size_swp]
      · rfl

set_option maxHeartbeats 16000000 in
set_option maxRecDepth 100000 in
theorem heap_any {w0 w : World} {blk cap n : Nat} {U : Nat → Value} {d : Array Int} (h : Rw w0 blk cap U d w) (hn : d.size = n) (hsz : n < 4611686018427387904) (a b : Nat) (hab : a < b) (hb : b ≤ n) :
    Calls Tryz.prog 119 #[.slice (some ⟨blk, 0, none⟩) n cap, .int .i64 (a : Int), .int .i64 (b : Int)] w fun e w' => e = .returned (.tuple #[]) ∧ Rw w0 blk cap U (Sort.heapSort lt d a b) w' := by
  have hs0 : Aside (d.size = n) := hn
  have hR0 := h
  clear h hn
  obtain ⟨hi, hhi⟩ : ∃ hi : Nat, (b : Int) - (a : Int) = (hi : Int) := ⟨b - a, by omega⟩
  have hhA : Aside (hi = b - a) := (by omega : hi = b - a)
  obtain ⟨i0, hi0⟩ : ∃ i0 : Nat, ((hi : Int) - 1) / 2 = (i0 : Int) := ⟨(hi - 1) / 2, by omega⟩
  have hiA : Aside (i0 = (hi - 1) / 2) := (by omega : i0 = (hi - 1) / 2)
  have hi1 : ((hi : Int) - 1).tdiv 2 = (i0 : Int) := by rw [Int.tdiv_eq_ediv_of_nonneg (by omega)]; exact hi0
  have hpos : 0 < hi := by omega
  have hbn : Aside (a + hi ≤ n) := (by omega : a + hi ≤ n)
  go_enter Tryz.func119, Tryz.ntmps119
  go_wp2
  go_loopg [9] (i0 + 1) (fun g s wr => ∃ (D : Array Int), s = .int .i64 ((g : Int) - 1) ∧ g ≤ n ∧ Aside (D.size = n) ∧ Aside (Sort.heapBuild lt hi a ((hi - 1) / 2 + 1) d = Sort.heapBuild lt hi a g D) ∧ Rw w0 blk cap U D wr)
  case atStart => exact ⟨d, by go_num, by have := hbn.out; have := hiA.out; omega, hs0, by rw [hiA.out]; exact rfl, hR0⟩
  case round =>
    clear hR0
    obtain ⟨D, rfl, hgn, hs, hE, hR⟩ := hrel
    cases gk with
    | zero =>
      have hz : ¬ (0 : Int) ≤ ((0 : Nat) : Int) - 1 := by omega
      have hE1 : Aside (Sort.heapBuild lt hi a ((hi - 1) / 2 + 1) d = D) := hE
      clear hE
      go_wp2
      go_loopg [10] hi (fun g s wr => ∃ (D' : Array Int), s = .int .i64 ((g : Int) - 1) ∧ g ≤ hi ∧ Aside (D'.size = n) ∧ Aside (Sort.heapPop lt a hi D = Sort.heapPop lt a g D') ∧ Rw w0 blk cap U D' wr)
      case atStart => exact ⟨D, by go_num, Nat.le_refl _, hs, rfl, hR⟩
      case round =>
        clear hR
        obtain ⟨D', rfl, hgn, hs', hE', hR⟩ := hrel
        cases gk with
        | zero =>
          have hz : ¬ (0 : Int) ≤ ((0 : Nat) : Int) - 1 := by omega
          go_wp2
          go_end0
          refine ⟨rfl, ?_⟩
          have e1 := hE'.out
          rw [Sort.heapSort, ← hhA.out, hE1.out, e1]
          exact hR
        | succ k =>
          have hz : (0 : Int) ≤ ((k + 1 : Nat) : Int) - 1 := by omega
          have hk : ((k + 1 : Nat) : Int) - 1 = (k : Int) := by omega
          have hk0 : (0 : Int) ≤ (k : Int) := by omega
          rw [hk]
          obtain ⟨pk, hpk⟩ : ∃ pk : Nat, (a : Int) + (k : Int) = (pk : Int) := ⟨a + k, by omega⟩
          have hpA : Aside (pk = a + k) := (by omega : pk = a + k)
          have hpn : pk < n := by have := hbn.out; omega
          go_wp2_with fail
          have bI : (a : Int) < (n : Int) := by omega
          have bJ : (pk : Int) < (n : Int) := by omega
          have cI := hR.cell (i := a) (by have := hs'.out; omega)
          have cJ := hR.cell (i := pk) (by have := hs'.out; omega)
          have fI := hR.free a
          have fJ := hR.free pk
          have hRs := (hR.swp a pk (by have := hs'.out; omega) (by have := hs'.out; omega)).drew
          obtain ⟨u, cU⟩ := hR.cell2 a pk (by have := hs'.out; omega) (by have := hs'.out; omega) D'[pk]!
          generalize D'[a]! = x at cI hRs
          generalize D'[pk]! = y at cJ cU hRs
          go_wp2_with fail
          go_region
          generalize ((wr.setCell ⟨blk, a, none⟩ (.int .u32 y)).setCell ⟨blk, pk, none⟩ (.int .u32 x)).drew = wrs at hRs ⊢
          clear cI cJ fI fJ cU hR
          have K := sift_any hRs (by rw [size_swp]; exact hs'.out) hsz 0 k a (by have := hbn.out; omega) (by omega)
          go_wp2_with (go_at_call 142; refine K.mono ?_; clear K; rintro e w3 ⟨rfl, hR3⟩)
          go_roundg k
          case measure => omega
          case rel => exact ⟨_, rfl, by omega, (show Aside _ from by rw [size_sift k a k 0 _ (by omega), size_swp]; exact hs'.out), (show Aside _ from by show _ = _; rw [hE'.out, Sort.heapPop, hpA.out]), hR3⟩
    | succ k =>
      have hz : (0 : Int) ≤ ((k + 1 : Nat) : Int) - 1 := by omega
      have hk : ((k + 1 : Nat) : Int) - 1 = (k : Int) := by omega
      have hk0 : (0 : Int) ≤ (k : Int) := by omega
      rw [hk]
      have K := sift_any hR hs.out hsz k hi a hbn.out (by omega)
      go_wp2_with (go_at_call 142; refine K.mono ?_; clear K; rintro e w3 ⟨rfl, hR3⟩)
      go_roundg k
      case measure => omega
      case rel => exact ⟨_, rfl, by omega, (show Aside _ from by rw [size_sift hi a hi k _ (by omega)]; exact hs.out), (show Aside _ from by show _ = _; rw [hE.out, Sort.heapBuild]), hR3⟩
end Go.Proofs.YteickckgljlacaaGreat.Rs

namespace Go.Proofs.YteickckgljlacaaGreat.Rs
open Go Go.RowKit

theorem scan_go (D : Array Int) (b i : Nat) (h : i < b) (hl : lt D[i]! D[i - 1]! = false) : Sort.scanSorted lt D b i = Sort.scanSorted lt D b (i + 1) := by
  rw [Sort.scanSorted, if_pos]
  simp [h, hl]
theorem scan_end (D : Array Int) (b i : Nat) (h : i < b → lt D[i]! D[i - 1]! = true) : Sort.scanSorted lt D b i = i := by
  rw [Sort.scanSorted, if_neg]
  by_cases c : i < b
  · simp [h c]
  · simp [c]
theorem down_go (D : Array Int) (j : Nat) (hl : lt D[j + 1]! D[j]! = true) : Sort.shiftDown lt (j + 1) D = Sort.shiftDown lt j (Sort.swp D (j + 1) j) := by
  rw [Sort.shiftDown, if_neg (by simp [hl])]
theorem down_end (D : Array Int) (j : Nat) (hl : lt D[j + 1]! D[j]! = false) : Sort.shiftDown lt (j + 1) D = D := by
  rw [Sort.shiftDown, if_pos (by simp [hl])]
theorem up_go (D : Array Int) (b j : Nat) (h : j < b) (hl : lt D[j]! D[j - 1]! = true) : Sort.shiftUp lt b j D = Sort.shiftUp lt b (j + 1) (Sort.swp D j (j - 1)) := by
  rw [Sort.shiftUp, if_pos h, if_neg (by simp [hl])]
theorem up_end (D : Array Int) (b j : Nat) (h : j < b → lt D[j]! D[j - 1]! = false) : Sort.shiftUp lt b j D = D := by
  rw [Sort.shiftUp]
  by_cases c : j < b
  · rw [if_pos c, if_pos (by simp [h c])]
  · rw [if_neg c]

set_option maxHeartbeats 32000000 in
set_option maxRecDepth 100000 in
theorem pins_any {w0 w : World} {blk cap n : Nat} {U : Nat → Value} {d : Array Int} (h : Rw w0 blk cap U d w) (hn : d.size = n) (hsz : n < 4611686018427387904) (a b : Nat) (hab : a < b) (hb : b ≤ n) :
    Calls Tryz.prog 123 #[.slice (some ⟨blk, 0, none⟩) n cap, .int .i64 (a : Int), .int .i64 (b : Int)] w fun e w' => e = .returned (.bool (Sort.partialInsertionSort lt d a b).2) ∧ Rw w0 blk cap U (Sort.partialInsertionSort lt d a b).1 w' := by
  have hs0 : Aside (d.size = n) := hn
  have hR0 := h
  obtain ⟨R, hRd⟩ : ∃ R, R = Sort.partialInsertionSort lt d a b := ⟨_, rfl⟩
  rw [← hRd]
  have hRA : Aside (R = Sort.partialIns lt a b 5 (a + 1) d) := hRd
  clear h hn hRd
  go_enter Tryz.func123, Tryz.ntmps123
  go_wp2
  go_loopg [7, 8] 5 (fun g s1 s2 wr => ∃ (i t : Nat) (D : Array Int), s1 = .int .i64 (i : Int) ∧ s2 = .int .i64 (t : Int) ∧ t + g = 5 ∧ a < i ∧ i ≤ b ∧ Aside (D.size = n) ∧ Aside (R = Sort.partialIns lt a b g i D) ∧ Rw w0 blk cap U D wr)
  case atStart => exact ⟨a + 1, 0, d, by go_num, rfl, rfl, by omega, by omega, hs0, hRA, hR0⟩
  case round =>
    clear hR0 hRA
    obtain ⟨i, t, D, rfl, rfl, ht, hai, hib, hs, hE, hR⟩ := hrel
    cases gk with
    | zero =>
      have htz : ¬ (t : Int) < 5 := by omega
      go_wp2
      go_ret
      have e : R = (D, false) := hE.out
      rw [e]
      exact ⟨rfl, hR⟩
    | succ g =>
      have htz : (t : Int) < 5 := by omega
      have hgA : Aside (t + (g + 1) = 5) := ht
      go_wp2
      go_loopg [7] (b + 1) (fun g' s wr => ∃ (i' : Nat), s = .int .i64 (i' : Int) ∧ a < i' ∧ i' ≤ b ∧ b + 1 - i' ≤ g' ∧ Aside (Sort.scanSorted lt D b i = Sort.scanSorted lt D b i') ∧ Rw w0 blk cap U D wr)
      case atStart => exact ⟨i, rfl, hai, hib, by omega, rfl, hR⟩
      case round =>
        clear hR
        obtain ⟨x, rfl, hax, hxb, hg', hsc, hR⟩ := hrel
        obtain ⟨xm, hxm⟩ : ∃ xm : Nat, (x : Int) - 1 = (xm : Int) := ⟨x - 1, by omega⟩
        have hxA : Aside (xm = x - 1) := (by omega : xm = x - 1)
        go_upto_region 5 with fail
        go_cut [32] from 17 to 32 (fun sb w => ∃ bb : Bool, sb = .bool bb ∧ Aside (bb = true ↔ (x < b ∧ lt D[x]! D[x - 1]! = false)) ∧ Rw w0 blk cap U D w)
        case first =>
          by_cases hle : x < b
          · have hdz : (x : Int) < (b : Int) := by omega
            have hd : decide ((x : Int) < (b : Int)) = true := decide_eq_true hdz
            have bI : (x : Int) < (n : Int) := by omega
            have bJ : (xm : Int) < (n : Int) := by omega
            have cI := hR.cell (i := x) (by have := hs.out; omega)
            have cJ := hR.cell (i := xm) (by have := hs.out; omega)
            obtain ⟨vx, hvx⟩ : ∃ v, v = D[x]! := ⟨_, rfl⟩
            obtain ⟨vy, hvy⟩ : ∃ v, v = D[xm]! := ⟨_, rfl⟩
            have hvxA : Aside (vx = D[x]!) := hvx
            have hvyA : Aside (vy = D[xm]!) := hvy
            rw [← hvx] at cI
            rw [← hvy] at cJ
            have K := fun w => less_any vx vy w
            clear hvx hvy
            cases hl : lt vx vy with
            | true =>
              rw [show Sort.ltInt vx vy = true from hl] at K
              have hlA : Aside (lt D[x]! D[xm]! = true) := by rw [← hvxA.out, ← hvyA.out]; exact hl
              clear hl hvxA hvyA
              go_wp2_with fail
              go_quiet (first | (go_at_call 124; exact Calls.quiet_of_same (K _)))
              have hRq := hR.drewN nq
              generalize wr.drewN nq = wrq at hRq ⊢
              clear nq cI cJ K hR
              go_wp2_with fail
              go_meet
              case rel => exact ⟨_, rfl, (show Aside _ from ⟨fun e => (by cases e), fun e => absurd e.2 (by rw [← hxA.out, hlA.out]; simp)⟩), hRq⟩
            | false =>
              rw [show Sort.ltInt vx vy = false from hl] at K
              have hlA : Aside (lt D[x]! D[xm]! = false) := by rw [← hvxA.out, ← hvyA.out]; exact hl
              clear hl hvxA hvyA
              go_wp2_with fail
              go_quiet (first | (go_at_call 124; exact Calls.quiet_of_same (K _)))
              have hRq := hR.drewN nq
              generalize wr.drewN nq = wrq at hRq ⊢
              clear nq cI cJ K hR
              go_wp2_with fail
              go_meet
              case rel => exact ⟨_, rfl, (show Aside _ from ⟨fun _ => ⟨hle, by rw [← hxA.out]; exact hlA.out⟩, fun _ => rfl⟩), hRq⟩

          · have hdz : ¬ (x : Int) < (b : Int) := by omega
            have hd : decide ((x : Int) < (b : Int)) = false := decide_eq_false hdz
            go_wp2_with fail
            go_region
            go_wp2_with fail
            go_meet
            case rel => exact ⟨_, rfl, (show Aside _ from ⟨fun e => (by cases e), fun e => absurd e.1 hle⟩), hR.drew⟩
        case rest =>
          clear hR
          obtain ⟨bb, rfl, hbb, hR⟩ := hcut
          cases bb with
          | true =>
            have hb1 := hbb.out.1 rfl
            go_wp2
            go_roundg (b + 1 - (x + 1))
            case measure => have := hb1.1; omega
            case rel => exact ⟨x + 1, by go_num, by omega, by have := hb1.1; omega, Nat.le_refl _, (show Aside _ from by show _ = _; rw [hsc.out, scan_go D b x hb1.1 hb1.2]), hR⟩
          | false =>
            have hx : Aside (Sort.scanSorted lt D b i = x) := by
              show _ = _
              rw [hsc.out, scan_end]
              intro e
              cases hh : lt D[x]! D[x - 1]! with
              | true => rfl
              | false => exact absurd (hbb.out.2 ⟨e, hh⟩) (by simp)
            have hST : Aside (R = if x = b then (D, true) else if b - a < 50 then (D, false) else Sort.partialIns lt a b g x (Sort.fixUp lt b x (Sort.fixDown lt a x (Sort.swp D x (x - 1))))) := by
              show _ = _
              rw [hE.out, Sort.partialIns_succ, hx.out]
            clear hbb hsc hE hx hg'
            by_cases hxe : x = b
            · have hxz : (x : Int) = (b : Int) := by omega
              have e : Aside (R = (D, true)) := by have := hST.out; rw [if_pos hxe] at this; exact this
              clear hST
              go_wp2
              go_ret
              rw [e.out]
              exact ⟨rfl, hR⟩
            · have hxz : ¬ (x : Int) = (b : Int) := by omega
              by_cases h50 : b - a < 50
              · have h5z : (b : Int) - (a : Int) < 50 := by omega
                have e : Aside (R = (D, false)) := by have := hST.out; rw [if_neg hxe, if_pos h50] at this; exact this
                clear hST
                go_wp2
                go_ret
                rw [e.out]
                exact ⟨rfl, hR⟩
              · have h5z : ¬ (b : Int) - (a : Int) < 50 := by omega
                have hST : Aside (R = Sort.partialIns lt a b g x (Sort.fixUp lt b x (Sort.fixDown lt a x (Sort.swp D x xm)))) := by have := hST.out; rw [if_neg hxe, if_neg h50, ← hxA.out] at this; exact this
                have hxb' : x < b := by omega
                go_wp2_with fail
                have bI : (x : Int) < (n : Int) := by omega
                have bJ : (xm : Int) < (n : Int) := by omega
                have cI := hR.cell (i := x) (by have := hs.out; omega)
                have cJ := hR.cell (i := xm) (by have := hs.out; omega)
                have fI := hR.free x
                have fJ := hR.free xm
                have hRs := (hR.swp x xm (by have := hs.out; omega) (by have := hs.out; omega)).drew
                obtain ⟨u, cU⟩ := hR.cell2 x xm (by have := hs.out; omega) (by have := hs.out; omega) D[xm]!
                generalize D[x]! = vx at cI hRs
                generalize D[xm]! = vy at cJ cU hRs
                go_wp2_with fail
                go_region
                generalize ((wc.setCell ⟨blk, x, none⟩ (.int .u32 vy)).setCell ⟨blk, xm, none⟩ (.int .u32 vx)).drew = wcs at hRs ⊢
                clear cI cJ fI fJ cU hR
                have hs1 : Aside ((Sort.swp D x xm).size = n) := by rw [size_swp]; exact hs.out
                generalize Sort.swp D x xm = D1 at hST hs1 hRs
                clear bI bJ
                go_upto_if 61 with fail
                go_cut [] from 58 to 94 (fun w => ∃ D2 : Array Int, Aside (D2 = Sort.fixDown lt a x D1) ∧ Aside (D2.size = n) ∧ Rw w0 blk cap U D2 w)
                case first =>
                  by_cases h2 : x - a ≥ 2
                  · have h2z : (2 : Int) ≤ (x : Int) - (a : Int) := by omega
                    have hfd : Aside (Sort.fixDown lt a x D1 = Sort.shiftDown lt xm D1) := by show _ = _; rw [Sort.fixDown, if_pos h2, ← hxA.out]
                    go_wp2
                    go_loopg [9] xm (fun j s wr => ∃ (D2 : Array Int), s = .int .i64 (j : Int) ∧ j ≤ xm ∧ Aside (D2.size = n) ∧ Aside (Sort.shiftDown lt xm D1 = Sort.shiftDown lt j D2) ∧ Rw w0 blk cap U D2 wr)
                    case atStart => exact ⟨D1, rfl, Nat.le_refl _, hs1, rfl, hRs⟩
                    case round =>
                      clear hRs
                      obtain ⟨D2, rfl, hjx, hs2, hE2, hR⟩ := hrel
                      cases gk with
                      | zero =>
                        have hz : ¬ (1 : Int) ≤ ((0 : Nat) : Int) := by omega
                        go_wp2
                        go_meet
                        case rel => exact ⟨D2, (show Aside _ from by show _ = _; rw [hfd.out, hE2.out]; rfl), hs2, hR⟩
                      | succ j =>
                        have hz : (1 : Int) ≤ ((j + 1 : Nat) : Int) := by omega
                        obtain ⟨k, hk⟩ : ∃ k, k = j + 1 := ⟨_, rfl⟩
                        have hkA : Aside (k = j + 1) := hk
                        have hkz : (k : Int) - 1 = (j : Int) := by omega
                        have hkn : k < n := by omega
                        rw [← hk] at hz
                        rw [← hk]
                        clear hk
                        go_wp2_with fail
                        have bI : (k : Int) < (n : Int) := by omega
                        have bJ : (j : Int) < (n : Int) := by omega
                        have cI := hR.cell (i := k) (by have := hs2.out; omega)
                        have cJ := hR.cell (i := j) (by have := hs2.out; omega)
                        obtain ⟨vx, hvx⟩ : ∃ v, v = D2[k]! := ⟨_, rfl⟩
                        obtain ⟨vy, hvy⟩ : ∃ v, v = D2[j]! := ⟨_, rfl⟩
                        have hvxA : Aside (vx = D2[k]!) := hvx
                        have hvyA : Aside (vy = D2[j]!) := hvy
                        rw [← hvx] at cI
                        rw [← hvy] at cJ
                        have K := fun w => less_any vx vy w
                        clear hvx hvy
                        cases hl : lt vx vy with
                        | true =>
                          rw [show Sort.ltInt vx vy = true from hl] at K
                          have hlA : Aside (lt D2[k]! D2[j]! = true) := by rw [← hvxA.out, ← hvyA.out]; exact hl
                          clear hl hvxA hvyA
                          go_wp2_with fail
                          go_quiet (first | (go_at_call 124; exact Calls.quiet_of_same (K _)))
                          have hRq := hR.drewN nq
                          generalize wr.drewN nq = wrq at hRq ⊢
                          clear nq cI cJ K hR
                          go_wp2_with fail

                          have bI3 : (k : Int) < (n : Int) := by omega
                          have bJ3 : (j : Int) < (n : Int) := by omega
                          have cI3 := hRq.cell (i := k) (by have := hs2.out; omega)
                          have cJ3 := hRq.cell (i := j) (by have := hs2.out; omega)
                          have fI3 := hRq.free k
                          have fJ3 := hRq.free j
                          have hRqs := (hRq.swp k j (by have := hs2.out; omega) (by have := hs2.out; omega)).drew
                          obtain ⟨u3, cU3⟩ := hRq.cell2 k j (by have := hs2.out; omega) (by have := hs2.out; omega) D2[j]!
                          generalize D2[k]! = vx3 at cI3 hRqs
                          generalize D2[j]! = vy3 at cJ3 cU3 hRqs
                          go_wp2_with fail
                          go_region
                          generalize ((wrq.setCell ⟨blk, k, none⟩ (.int .u32 vy3)).setCell ⟨blk, j, none⟩ (.int .u32 vx3)).drew = wrqs at hRqs ⊢
                          clear cI3 cJ3 fI3 fJ3 cU3 hRq
                          go_wp2
                          go_roundg j
                          case measure => have := hkA.out; omega
                          case rel =>
                            have e := hkA.out
                            subst e
                            exact ⟨_, rfl, by omega, (show Aside _ from by rw [size_swp]; exact hs2.out), (show Aside _ from by show _ = _; rw [hE2.out, down_go D2 j hlA.out]), hRqs⟩
                        | false =>
                          rw [show Sort.ltInt vx vy = false from hl] at K
                          have hlA : Aside (lt D2[k]! D2[j]! = false) := by rw [← hvxA.out, ← hvyA.out]; exact hl
                          clear hl hvxA hvyA
                          go_wp2_with fail
                          go_quiet (first | (go_at_call 124; exact Calls.quiet_of_same (K _)))
                          have hRq := hR.drewN nq
                          generalize wr.drewN nq = wrq at hRq ⊢
                          clear nq cI cJ K hR
                          go_wp2
                          go_meet
                          case rel =>
                            have e := hkA.out
                            subst e
                            exact ⟨D2, (show Aside _ from by show _ = _; rw [hfd.out, hE2.out, down_end D2 j hlA.out]), hs2, hRq⟩

                  · have h2z : ¬ (2 : Int) ≤ (x : Int) - (a : Int) := by omega
                    go_wp2
                    go_meet
                    case rel => exact ⟨D1, (show Aside _ from by show _ = _; rw [Sort.fixDown, if_neg h2]), hs1, hRs⟩
                case rest =>
                  clear hRs
                  obtain ⟨D2, hD2, hs2, hR⟩ := hcut
                  have hST : Aside (R = Sort.partialIns lt a b g x (Sort.fixUp lt b x D2)) := by show _ = _; rw [hST.out, hD2.out]
                  clear hD2
                  have fin : Aside (∀ (D3 : Array Int) (w' : World), D3 = Sort.fixUp lt b x D2 → D3.size = n → Rw w0 blk cap U D3 w' → ∃ (i t' : Nat) (D : Array Int), Value.int .i64 (x : Int) = .int .i64 (i : Int) ∧ Value.int .i64 ((t : Int) + 1) = .int .i64 (t' : Int) ∧ t' + g = 5 ∧ a < i ∧ i ≤ b ∧ Aside (D.size = n) ∧ Aside (R = Sort.partialIns lt a b g i D) ∧ Rw w0 blk cap U D w') :=
                    fun D3 w' h1 h2 h3 => ⟨x, t + 1, D3, rfl, by go_num, by have := hgA.out; omega, hax, hxb, h2, (show Aside _ from by show _ = _; rw [hST.out, h1]), h3⟩
                  have hgA2 : Aside (g < g + 1) := Nat.lt_succ_self g
                  have htz2 : (t : Int) + 1 ≤ 5 := by omega
                  clear hST
                  by_cases h2 : b - x ≥ 2
                  · have h2z : (2 : Int) ≤ (b : Int) - (x : Int) := by omega
                    have hfu : Aside (Sort.fixUp lt b x D2 = Sort.shiftUp lt b (x + 1) D2) := by show _ = _; rw [Sort.fixUp, if_pos h2]
                    go_wp2
                    go_loopg [10] (b + 1) (fun g' s wr => ∃ (k : Nat) (D3 : Array Int), s = .int .i64 (k : Int) ∧ 0 < k ∧ k ≤ b ∧ b + 1 - k ≤ g' ∧ Aside (D3.size = n) ∧ Aside (Sort.shiftUp lt b (x + 1) D2 = Sort.shiftUp lt b k D3) ∧ Rw w0 blk cap U D3 wr)
                    case atStart => exact ⟨x + 1, D2, by go_num, by omega, by omega, by omega, hs2, rfl, hR⟩
                    case round =>
                      clear hR
                      obtain ⟨k, D3, rfl, hk0, hkb, hg', hs3, hE3, hR⟩ := hrel
                      by_cases hkb' : k < b
                      · have hz : (k : Int) < (b : Int) := by omega
                        obtain ⟨j, hkz⟩ : ∃ j : Nat, (k : Int) - 1 = (j : Int) := ⟨k - 1, by omega⟩
                        have hjA : Aside (j = k - 1) := (by omega : j = k - 1)
                        have hgA' : Aside (b + 1 - k ≤ gk) := hg'
                        go_wp2_with fail
                        have bI : (k : Int) < (n : Int) := by omega
                        have bJ : (j : Int) < (n : Int) := by omega
                        have cI := hR.cell (i := k) (by have := hs3.out; omega)
                        have cJ := hR.cell (i := j) (by have := hs3.out; omega)
                        obtain ⟨vx, hvx⟩ : ∃ v, v = D3[k]! := ⟨_, rfl⟩
                        obtain ⟨vy, hvy⟩ : ∃ v, v = D3[j]! := ⟨_, rfl⟩
                        have hvxA : Aside (vx = D3[k]!) := hvx
                        have hvyA : Aside (vy = D3[j]!) := hvy
                        rw [← hvx] at cI
                        rw [← hvy] at cJ
                        have K := fun w => less_any vx vy w
                        clear hvx hvy
                        cases hl : lt vx vy with
                        | true =>
                          rw [show Sort.ltInt vx vy = true from hl] at K
                          have hlA : Aside (lt D3[k]! D3[j]! = true) := by rw [← hvxA.out, ← hvyA.out]; exact hl
                          clear hl hvxA hvyA
                          go_wp2_with fail
                          go_quiet (first | (go_at_call 124; exact Calls.quiet_of_same (K _)))
                          have hRq := hR.drewN nq
                          generalize wr.drewN nq = wrq at hRq ⊢
                          clear nq cI cJ K hR
                          go_wp2_with fail

                          have bI4 : (k : Int) < (n : Int) := by omega
                          have bJ4 : (j : Int) < (n : Int) := by omega
                          have cI4 := hRq.cell (i := k) (by have := hs3.out; omega)
                          have cJ4 := hRq.cell (i := j) (by have := hs3.out; omega)
                          have fI4 := hRq.free k
                          have fJ4 := hRq.free j
                          have hRqs := (hRq.swp k j (by have := hs3.out; omega) (by have := hs3.out; omega)).drew
                          obtain ⟨u4, cU4⟩ := hRq.cell2 k j (by have := hs3.out; omega) (by have := hs3.out; omega) D3[j]!
                          generalize D3[k]! = vx4 at cI4 hRqs
                          generalize D3[j]! = vy4 at cJ4 cU4 hRqs
                          go_wp2_with fail
                          go_region
                          generalize ((wrq.setCell ⟨blk, k, none⟩ (.int .u32 vy4)).setCell ⟨blk, j, none⟩ (.int .u32 vx4)).drew = wrqs at hRqs ⊢
                          clear cI4 cJ4 fI4 fJ4 cU4 hRq
                          go_wp2
                          go_roundg (b + 1 - (k + 1))
                          case measure => have := hgA'.out; omega
                          case rel => exact ⟨k + 1, _, by go_num, by omega, by omega, Nat.le_refl _, (show Aside _ from by rw [size_swp]; exact hs3.out), (show Aside _ from by show _ = _; rw [hE3.out, up_go D3 b k hkb' (by rw [← hjA.out]; exact hlA.out), ← hjA.out]), hRqs⟩
                        | false =>
                          rw [show Sort.ltInt vx vy = false from hl] at K
                          have hlA : Aside (lt D3[k]! D3[j]! = false) := by rw [← hvxA.out, ← hvyA.out]; exact hl
                          clear hl hvxA hvyA
                          go_wp2_with fail
                          go_quiet (first | (go_at_call 124; exact Calls.quiet_of_same (K _)))
                          have hRq := hR.drewN nq
                          generalize wr.drewN nq = wrq at hRq ⊢
                          clear nq cI cJ K hR
                          go_wp2
                          go_roundg g
                          case measure => omega
                          case rel => exact fin.out D3 _ (by rw [hfu.out, hE3.out, up_end D3 b k (fun _ => by rw [← hjA.out]; exact hlA.out)]) hs3.out hRq

                      · have hz : ¬ (k : Int) < (b : Int) := by omega
                        go_wp2
                        go_roundg g
                        case measure => omega
                        case rel => exact fin.out D3 _ (by rw [hfu.out, hE3.out, up_end D3 b k (fun e => absurd e hkb')]) hs3.out hR
                  · have h2z : ¬ (2 : Int) ≤ (b : Int) - (x : Int) := by omega
                    go_wp2
                    go_roundg g
                    case measure => omega
                    case rel => exact fin.out D2 _ (by rw [Sort.fixUp, if_neg h2]) hs2.out hR
end Go.Proofs.YteickckgljlacaaGreat.Rs

namespace Go.Proofs.YteickckgljlacaaGreat.Rs
open Go Go.RowKit

set_option maxHeartbeats 4000000 in
theorem pow2_any (x : Nat) (hx : x < 65536) (w : World) :
    Calls Tryz.prog 143 #[.int .i64 (x : Int)] w fun e w' => e = .returned (.int .u64 ((2 ^ Lib.bitLen x : Nat) : Int)) ∧ w' = w := by
  have K := len_any x hx w
  have hb := Lib.bitLen_le x 16 (by omega) (by omega)
  have hp : (2 : Nat) ^ Lib.bitLen x ≤ 2 ^ 16 := Nat.pow_le_pow_right (by decide) hb
  have hw : IntKind.u64.wrap ((2 : Int) ^ Lib.bitLen x) = ((2 ^ Lib.bitLen x : Nat) : Int) := by
    rw [IntKind.wrap_u64, show ((2 : Int) ^ Lib.bitLen x) = ((2 ^ Lib.bitLen x : Nat) : Int) by push_cast; rfl]
    generalize (2 : Nat) ^ Lib.bitLen x = p at hp
    omega
  generalize Lib.bitLen x = k at K hb hp hw
  go_enter Tryz.func143, Tryz.ntmps143
  go_wp2_with (go_at_call 103; refine K.mono ?_; clear K; rintro e w' ⟨rfl, rfl⟩)
  go_ret
  exact ⟨rfl, rfl⟩

/-- The row, and a number of the call's own beside it. -/
structure Rn (w0 : World) (blk cap : Nat) (U : Nat → Value) (d : Array Int) (c : Nat) (w : World) : Prop where
  row : Rw w0 blk cap U d w
  num : ∃ s : Nat, s < 18446744073709551616 ∧ w.cell? ⟨c, 0, none⟩ = some (.int .u64 (s : Int))
  nfree : w.frozen? ⟨c, 0, none⟩ = false
  new : w0.heap.size ≤ c
section
variable {w0 w : World} {blk cap n c : Nat} {U : Nat → Value} {d : Array Int}
theorem Rn.bump (h : Rn w0 blk cap U d c w) (t : Nat) (ht : t < 18446744073709551616) : Rn w0 blk cap U d c (w.setCell ⟨c, 0, none⟩ (.int .u64 (t : Int))) :=
  ⟨h.row.setNew h.new 0 _, ⟨t, ht, by obtain ⟨s, _, hs⟩ := h.num; exact World.cell?_setCell_same' _ _ _ (by rw [hs]; rfl)⟩, by rw [World.frozen?_setCell]; exact h.nfree, h.new⟩
theorem Rn.drew (h : Rn w0 blk cap U d c w) : Rn w0 blk cap U d c w.drew := ⟨h.row.drew, h.num, h.nfree, h.new⟩
theorem Rn.cellOf (h : Rn w0 blk cap U d c w) (t : Nat) : (w.setCell ⟨c, 0, none⟩ (.int .u64 (t : Int))).drew.cell? ⟨c, 0, none⟩ = some (.int .u64 (t : Int)) := by
  obtain ⟨s, _, hs⟩ := h.num
  exact World.cell?_setCell_same' _ _ _ (by rw [hs]; rfl)
theorem Rn.cell (h : Rn w0 blk cap U d c w) {i : Nat} (hi : i < d.size) : w.cell? ⟨blk, i, none⟩ = some (.int .u32 d[i]!) := h.row.cell hi
theorem Rn.free (h : Rn w0 blk cap U d c w) (i : Nat) : w.frozen? ⟨blk, i, none⟩ = false := h.row.free i
theorem Rn.cell2 (h : Rn w0 blk cap U d c w) (i j : Nat) (hi : i < d.size) (hj : j < d.size) (v : Int) : ∃ u, (w.setCell ⟨blk, i, none⟩ (.int .u32 v)).cell? ⟨blk, j, none⟩ = some u := h.row.cell2 i j hi hj v
theorem Rn.swp (h : Rn w0 blk cap U d c w) (i j : Nat) (hi : i < d.size) (hj : j < d.size) :
    Rn w0 blk cap U (Sort.swp d i j) c ((w.setCell ⟨blk, i, none⟩ (.int .u32 d[j]!)).setCell ⟨blk, j, none⟩ (.int .u32 d[i]!)) := by
  have hne : blk ≠ c := by have := h.new; have := h.row.old; omega
  refine ⟨h.row.swp i j hi hj, ?_, ?_, h.new⟩
  · obtain ⟨s, h1, hs⟩ := h.num
    refine ⟨s, h1, ?_⟩
    rw [World.cell?_setCell_other _ _ _ _ (by intro e; simp only [Addr.mk.injEq] at e; exact hne e.1), World.cell?_setCell_other _ _ _ _ (by intro e; simp only [Addr.mk.injEq] at e; exact hne e.1)]
    exact hs
  · rw [World.frozen?_setCell, World.frozen?_setCell]
    exact h.nfree

set_option maxHeartbeats 4000000 in
theorem next_any (h : Rn w0 blk cap U d c w) :
    Calls Tryz.prog 144 #[.pointer (some ⟨c, 0, none⟩)] w fun e w' => ∃ t : Nat, t < 18446744073709551616 ∧ e = .returned (.int .u64 (t : Int)) ∧ Rn w0 blk cap U d c w' := by
  obtain ⟨s, hs, hc⟩ := h.num
  have hf := h.nfree
  obtain ⟨A, hA⟩ : ∃ A : Nat, A = s ^^^ (s * 8192 % 18446744073709551616) := ⟨_, rfl⟩
  have lA : A < 18446744073709551616 := by rw [hA]; exact Nat.xor_lt_two_pow (n := 64) (by omega) (by omega)
  obtain ⟨B, hB⟩ : ∃ B : Nat, B = A ^^^ (A / 128) := ⟨_, rfl⟩
  have lB : B < 18446744073709551616 := by rw [hB]; exact Nat.xor_lt_two_pow (n := 64) (by omega) (by omega)
  obtain ⟨C, hC⟩ : ∃ C : Nat, C = B ^^^ (B * 131072 % 18446744073709551616) := ⟨_, rfl⟩
  have lC : C < 18446744073709551616 := by rw [hC]; exact Nat.xor_lt_two_pow (n := 64) (by omega) (by omega)
  have e1 : bits .xor .u64 (s : Int) (IntKind.u64.wrap ((s : Int) * 8192)) = (A : Int) := by
    rw [IntKind.wrap_u64, show ((s : Int) * 8192 % 18446744073709551616) = ((s * 8192 % 18446744073709551616 : Nat) : Int) by omega, bits_xor_u64_nat _ _ hs (by omega), hA]
  have e2 : bits .xor .u64 (A : Int) ((A : Int) / 128) = (B : Int) := by
    rw [show ((A : Int) / 128) = ((A / 128 : Nat) : Int) by omega, bits_xor_u64_nat _ _ lA (by omega), hB]
  have e3 : bits .xor .u64 (B : Int) (IntKind.u64.wrap ((B : Int) * 131072)) = (C : Int) := by
    rw [IntKind.wrap_u64, show ((B : Int) * 131072 % 18446744073709551616) = ((B * 131072 % 18446744073709551616 : Nat) : Int) by omega, bits_xor_u64_nat _ _ lB (by omega), hC]
  clear hA hB hC
  have h1 := (h.bump A lA).drew
  have c1 := h.cellOf A
  go_enter Tryz.func144, Tryz.ntmps144
  go_wp2_with fail
  go_region
  generalize (w.setCell ⟨c, 0, none⟩ (.int .u64 (A : Int))).drew = w1 at h1 c1 ⊢
  have f1 := h1.nfree
  have h2 := (h1.bump B lB).drew
  have c2 := h1.cellOf B
  go_wp2_with fail
  go_region
  generalize (w1.setCell ⟨c, 0, none⟩ (.int .u64 (B : Int))).drew = w2 at h2 c2 ⊢
  have f2 := h2.nfree
  have h3 := (h2.bump C lC).drew
  have c3 := h2.cellOf C
  go_wp2_with fail
  go_region
  generalize (w2.setCell ⟨c, 0, none⟩ (.int .u64 (C : Int))).drew = w3 at h3 c3 ⊢
  go_wp2
  go_ret
  exact ⟨C, lC, rfl, h3⟩
end

theorem and_fact (X M1 : Nat) (hX : X < 18446744073709551616) (hM : M1 < 131072) : ∃ o : Nat, bits .and .u64 (X : Int) (M1 : Int) = (o : Int) ∧ o ≤ M1 :=
  ⟨X &&& M1, bits_and_u64_nat X M1 hX (by omega), Nat.and_le_right⟩

set_option maxHeartbeats 8000000 in
set_option maxRecDepth 100000 in
theorem brk_any {w0 w : World} {blk cap n : Nat} {U : Nat → Value} {d : Array Int} (h : Rw w0 blk cap U d w) (hn : d.size = n) (hsz : n < 65536) (a b : Nat) (hab : a + 12 < b) (hb : b ≤ n) :
    Calls Tryz.prog 120 #[.slice (some ⟨blk, 0, none⟩) n cap, .int .i64 (a : Int), .int .i64 (b : Int)] w fun e w' => e = .returned (.tuple #[]) ∧ ∃ d', Pm a b d d' ∧ Rw w0 blk cap U d' w' := by
  obtain ⟨l, hl⟩ : ∃ l : Nat, (b : Int) - (a : Int) = (l : Int) := ⟨b - a, by omega⟩
  have hlA : Aside (a + l = b ∧ 12 < l) := (by omega : a + l = b ∧ 12 < l)
  obtain ⟨q, hq⟩ : ∃ q : Nat, (l : Int) / 4 = (q : Int) := ⟨l / 4, by omega⟩
  have hq' : (l : Int).tdiv 4 = (q : Int) := by rw [Int.tdiv_eq_ediv_of_nonneg (by omega)]; exact hq
  obtain ⟨m, hm⟩ : ∃ m : Nat, (a : Int) + (q : Int) * 2 = (m : Int) := ⟨a + q * 2, by omega⟩
  have hmA : Aside (a < m ∧ m + 1 < b) := (by omega : a < m ∧ m + 1 < b)
  have h8 : (8 : Int) ≤ (l : Int) := by omega
  have hlw : IntKind.u64.wrap (l : Int) = (l : Int) := by rw [IntKind.wrap_u64]; omega
  have hs0 : Aside (d.size = n) := hn
  obtain ⟨M, hM⟩ : ∃ M, M = 2 ^ Lib.bitLen l := ⟨_, rfl⟩
  have hMA : Aside (0 < M ∧ M ≤ 2 * l ∧ M ≤ 131072) := by
    have h1 := bl_spec l l (Nat.le_refl _) (by omega)
    have h2 := h1.2 (by omega)
    have h3 := Nat.two_pow_pos (Lib.bitLen l)
    rw [← hM] at h2 h3
    exact ⟨h3, h2, by omega⟩
  have hR := h.alloc (.cells #[.int .u64 (l : Int)] 211)
  have hc : (w.alloc (.cells #[.int .u64 (l : Int)] 211)).cell? ⟨w.heap.size, 0, none⟩ = some (.int .u64 (l : Int)) := by simp
  have hN0 : Rn w0 blk cap U d w.heap.size (w.alloc (.cells #[.int .u64 (l : Int)] 211)) := ⟨hR, ⟨l, by omega, hc⟩, by simp, h.size_le⟩
  have K := fun w => pow2_any l (by omega) w
  rw [← hM] at K
  have hn2 : Aside (b ≤ n) := hb
  clear h hn hR hc hM
  go_enter Tryz.func120, Tryz.ntmps120
  go_wp2_with (go_at_call 143; refine (K _).mono ?_; rintro e w' ⟨rfl, rfl⟩)
  obtain ⟨w1, hw1⟩ : ∃ w1, w1 = w.alloc (.cells #[.int .u64 (l : Int)] 211) := ⟨_, rfl⟩
  rw [← hw1] at hN0 ⊢
  generalize w.heap.size = c at hN0 ⊢
  clear hw1 K
  go_loopg [9] 3 (fun g s wr => ∃ (t : Nat) (D : Array Int), s = .int .i64 (t : Int) ∧ t + g = m + 2 ∧ g ≤ 3 ∧ Aside (D.size = n) ∧ Aside (Pm a b d D) ∧ Rn w0 blk cap U D c wr)
  case atStart => exact ⟨m - 1, d, by have := hmA.out; go_num, by have := hmA.out; omega, Nat.le_refl _, hs0, Pm.refl _ _ _, hN0⟩
  case round =>
    clear hN0
    obtain ⟨t, D, rfl, htg, hg3, hs, hP, hN⟩ := hrel
    have htA : Aside (t + gk = m + 2) := htg
    by_cases ht : t ≤ m + 1
    · have htz : (t : Int) ≤ (m : Int) + 1 := by omega
      have K := next_any hN
      have hMz : (M : Int) - 1 = ((M - 1 : Nat) : Int) := by have := hMA.out; omega
      have hMw : IntKind.u64.wrap ((M : Int) - 1) = ((M - 1 : Nat) : Int) := by rw [hMz, IntKind.wrap_u64]; have := hMA.out; omega
      obtain ⟨M1, hM1⟩ : ∃ M1, M1 = M - 1 := ⟨_, rfl⟩
      rw [← hM1] at hMz hMw
      have hM1A : Aside (M1 < 2 * l ∧ M1 < 131072) := (by have := hMA.out; omega : M1 < 2 * l ∧ M1 < 131072)
      have hM1w : IntKind.u64.wrap (M1 : Int) = (M1 : Int) := by rw [IntKind.wrap_u64]; have := hM1A.out; omega
      have hM1b : M1 < 131072 := hM1A.out.2
      clear hM1
      go_upto_if 43 with (go_at_call 144; refine K.mono ?_; clear K; rintro e w2 ⟨X, hX, rfl, hN2⟩; obtain ⟨o, hand, hob⟩ := and_fact X M1 hX hM1b)
      go_cut [10] from 41 to 46 (fun so w => ∃ o : Nat, so = .int .i64 (o : Int) ∧ o < l ∧ w = w2)
      case first =>
        by_cases hol : o < l
        · have hz : ¬ (l : Int) ≤ (o : Int) := by omega
          go_wp2
          go_meet
          case rel => exact ⟨o, rfl, hol, rfl⟩
        · have hz : (l : Int) ≤ (o : Int) := by omega
          go_wp2
          go_meet
          case rel => exact ⟨o - l, by first | go_num | (congr 1; omega), by have := hM1A.out; omega, rfl⟩
      case rest =>
        obtain ⟨oo, rfl, hoo, rfl⟩ := hcut
        obtain ⟨pk, hpk⟩ : ∃ pk : Nat, (a : Int) + (oo : Int) = (pk : Int) := ⟨a + oo, by omega⟩
        have hpA : Aside (a ≤ pk ∧ pk < b) := (by have := hlA.out; omega : a ≤ pk ∧ pk < b)
        have hmm := hmA.out
        have hnn := hn2.out
        have hpp := hpA.out
        have hgk : Aside (0 < gk) := (by omega : 0 < gk)
        have hgk3 : Aside (m ≤ t + 1) := (by simp only [Aside]; have := htA.out; omega)
        have bI : (t : Int) < (n : Int) := by omega
        have bJ : (pk : Int) < (n : Int) := by omega
        have cI := hN2.cell (i := t) (by have := hs.out; omega)
        have cJ := hN2.cell (i := pk) (by have := hs.out; omega)
        have fI := hN2.free t
        have fJ := hN2.free pk
        have hN2s := (hN2.swp t pk (by have := hs.out; omega) (by have := hs.out; omega)).drew
        obtain ⟨u, cU⟩ := hN2.cell2 t pk (by have := hs.out; omega) (by have := hs.out; omega) D[pk]!
        generalize D[t]! = vx at cI hN2s
        generalize D[pk]! = vy at cJ cU hN2s
        go_wp2_with fail
        go_region
        generalize ((wc.setCell ⟨blk, t, none⟩ (.int .u32 vy)).setCell ⟨blk, pk, none⟩ (.int .u32 vx)).drew = wcs at hN2s ⊢
        clear cI cJ fI fJ cU hN2
        go_wp2
        go_roundg (gk - 1)
        case measure => have := hgk.out; omega
        case rel => exact ⟨t + 1, _, by go_num, by have := hgk.out; have := htA.out; omega, by omega, (show Aside _ from by rw [size_swp]; exact hs.out), hP.out.swp (by have := hgk3.out; omega) (by omega) (by omega) (by omega) (by have := hs.out; omega), hN2s⟩
    · have htz : ¬ (t : Int) ≤ (m : Int) + 1 := by omega
      go_wp2
      go_end0
      exact ⟨rfl, D, hP.out, hN.row⟩
end Go.Proofs.YteickckgljlacaaGreat.Rs

namespace Go.Proofs.YteickckgljlacaaGreat.Rs
open Go Go.RowKit

/-- R is d with the part from a to b sorted. -/
def Srt (a b : Nat) (d R : Array Int) : Prop := Pm a b d R ∧ Sort.SortedIn lt a b R
abbrev Abv (a b : Nat) (d : Array Int) : Prop := Sort.Below lt a b d
abbrev swo := Sort.swo_ltInt
theorem Pm.all {a b : Nat} {d d' : Array Int} (h : Pm a b d d') (hb : b ≤ d.size) (p : Int → Prop) (k : ∀ i, a ≤ i → i < b → p d[i]!) : ∀ i, a ≤ i → i < b → p d'[i]! := Sort.permIn_all d d' a b p hb h k
theorem Pm.wide {a b a' b' : Nat} {d d' : Array Int} (h : Pm a b d d') (h1 : a' ≤ a) (h2 : b ≤ b') (h3 : b' ≤ d.size) : Pm a' b' d d' := Sort.permIn_mono d d' a b a' b' h1 h2 h3 h
theorem Pm.out {a b : Nat} {d d' : Array Int} (h : Pm a b d d') {i : Nat} (hi : i < a ∨ b ≤ i) : d'[i]! = d[i]! := h.2.1 i hi

theorem Even.round {a b m pv : Nat} {d D : Array Int} (h : Even a b m d[pv]! d D) (hb : b ≤ d.size) (ha : 0 < a) (hB : Abv a b d) (hl : lt d[a - 1]! d[pv]! = false) :
    Abv m b D ∧ ∀ R, Srt m b D R → Srt a b d R := by
  have hge : ∀ i, a ≤ i → i < b → lt d[i]! d[pv]! = false := fun i h1 h2 => by
    rcases hB with e | hB
    · omega
    · exact swo.ntrans _ _ _ (hB i h1 h2) hl
  have hge4 := h.perm.all hb (fun x => lt x d[pv]! = false) hge
  have hbD : b ≤ D.size := by rw [h.perm.size]; exact hb
  have am := h.am
  have mb := h.mb
  refine ⟨.inr fun i h1 h2 => ?_, fun R hR => ⟨h.perm.trans (hR.1.wide (by omega) (Nat.le_refl _) hbD), ?_⟩⟩
  · have q1 := h.hi i h1 h2
    have q2 := h.lo (m - 1) (by omega) (by omega)
    cases hc : lt D[i]! D[m - 1]! with
    | false => rfl
    | true =>
      have this : lt d[pv]! D[m - 1]! = true := swo.trans _ _ _ q1 hc
      rw [q2] at this
      cases this
  · refine Sort.sorted_glue_eq swo d[pv]! hR.2 (fun i h1 h2 => ?_) (fun i h1 h2 => ?_) (hR.1.all hbD (fun x => lt d[pv]! x = true) h.hi)
    · rw [hR.1.out (.inl h2)]; exact h.lo i h1 h2
    · rw [hR.1.out (.inl h2)]; exact hge4 i h1 (by omega)

theorem Parted.round {a b m : Nat} {d D : Array Int} (h : Parted a b m d D) (hb : b ≤ d.size) (hB : Abv a b d) :
    Abv a m D ∧ Abv (m + 1) b D ∧ (∀ L, Srt a m D L → Abv (m + 1) b L ∧ ∀ R, Srt (m + 1) b L R → Srt a b d R) ∧ (∀ L, Srt (m + 1) b D L → Abv a m L ∧ ∀ R, Srt a m L R → Srt a b d R) := by
  have am := h.am
  have mb := h.mb
  have hbD : b ≤ D.size := by rw [h.perm.size]; exact hb
  have hBD : Abv a b D := hB.perm hb h.perm
  have hBa : Abv a m D := hBD.mono (by omega)
  refine ⟨hBa, .inr fun i h1 h2 => by rw [Nat.add_sub_cancel]; exact h.hi i (by omega) h2, fun L hL => ?_, fun L hL => ?_⟩
  · have hbL : b ≤ L.size := by rw [hL.1.size]; exact hbD
    have eL : ∀ i, m ≤ i → L[i]! = D[i]! := fun i hi => hL.1.out (.inr hi)
    refine ⟨.inr fun i h1 h2 => by rw [Nat.add_sub_cancel, eL i (by omega), eL m (Nat.le_refl _)]; exact h.hi i (by omega) h2, fun R hR => ?_⟩
    have eR : ∀ i, i ≤ m → R[i]! = L[i]! := fun i hi => hR.1.out (.inl (by omega))
    refine ⟨h.perm.trans ((hL.1.wide (Nat.le_refl _) (by omega) hbD).trans (hR.1.wide (by omega) (Nat.le_refl _) hbL)), ?_⟩
    refine Sort.sorted_glue swo (hL.2.congr fun i _ hi => eR i (by omega)) hR.2 (fun i h1 h2 => ?_) (fun i h1 h2 => ?_)
    · rw [eR i (by omega), eR m (Nat.le_refl _), eL m (Nat.le_refl _)]
      exact hL.1.all (by omega) (fun x => lt x D[m]! = true) h.lo i h1 h2
    · rw [eR m (Nat.le_refl _), eL m (Nat.le_refl _)]
      exact hR.1.all hbL (fun x => lt x D[m]! = false) (fun k k1 k2 => by rw [eL k (by omega)]; exact h.hi k (by omega) k2) i (by omega) h2
  · have hbL : b ≤ L.size := by rw [hL.1.size]; exact hbD
    have eL : ∀ i, i ≤ m → L[i]! = D[i]! := fun i hi => hL.1.out (.inl (by omega))
    refine ⟨?_, fun R hR => ?_⟩
    · rcases hBa with e | hBa
      · exact .inl e
      · exact .inr fun i h1 h2 => by rw [eL i (by omega), eL (a - 1) (by omega)]; exact hBa i h1 h2
    · have eR : ∀ i, m ≤ i → R[i]! = L[i]! := fun i hi => hR.1.out (.inr hi)
      refine ⟨h.perm.trans ((hL.1.wide (by omega) (Nat.le_refl _) hbD).trans (hR.1.wide (Nat.le_refl _) (by omega) hbL)), ?_⟩
      refine Sort.sorted_glue swo hR.2 (hL.2.congr fun i h1 _ => eR i (by omega)) (fun i h1 h2 => ?_) (fun i h1 h2 => ?_)
      · rw [eR m (Nat.le_refl _), eL m (Nat.le_refl _)]
        exact hR.1.all (by omega) (fun x => lt x D[m]! = true) (fun k k1 k2 => by rw [eL k (by omega)]; exact h.lo k k1 k2) i h1 h2
      · rw [eR i (by omega), eR m (Nat.le_refl _), eL m (Nat.le_refl _)]
        exact hL.1.all hbD (fun x => lt x D[m]! = false) (fun k k1 k2 => h.hi k (by omega) k2) i (by omega) h2
theorem Srt.of_perm {a b : Nat} {d D R : Array Int} (h : Pm a b d D) (k : Srt a b D R) : Srt a b d R := ⟨h.trans k.1, k.2⟩

/-- What the sort of a part does, for parts of less than k. -/
def Sorts30 (k : Nat) : Prop := ∀ (w0 w : World) (blk cap n : Nat) (U : Nat → Value) (d : Array Int) (a b l : Nat), Rw w0 blk cap U d w → d.size = n → n < 65536 → a ≤ b → b ≤ n → l ≤ 64 → Abv a b d → b - a < k →
  Calls Tryz.prog 102 #[.slice (some ⟨blk, 0, none⟩) n cap, .int .i64 (a : Int), .int .i64 (b : Int), .int .i64 (l : Int)] w fun e w' => e = .returned (.tuple #[]) ∧ ∃ R, Srt a b d R ∧ Rw w0 blk cap U R w'

set_option maxHeartbeats 32000000 in
set_option maxRecDepth 100000 in
theorem pdq_step (k : Nat) (ih : Aside (Sorts30 k)) : Sorts30 (k + 1) := by
  intro w0 w blk cap n U d a0 b0 l0 h hn hsz hab0 hb0 hl0 hB0 hk0
  have hs0 : Aside (d.size = n) := hn
  have hk : Aside (b0 - a0 < k + 1) := hk0
  have hR0 := h
  have hB0 : Aside (Abv a0 b0 d) := hB0
  clear h hn hk0
  go_enter Tryz.func102, Tryz.ntmps102
  go_wp2
  go_loopg [1, 2, 3, 8, 9] k (fun g s1 s2 s3 s8 s9 wr => ∃ (a b l : Nat) (bal prt : Bool) (D : Array Int), s1 = .int .i64 (a : Int) ∧ s2 = .int .i64 (b : Int) ∧ s3 = .int .i64 (l : Int) ∧ s8 = .bool bal ∧ s9 = .bool prt ∧ a ≤ b ∧ b ≤ n ∧ l ≤ 64 ∧ Aside (b - a ≤ g ∧ b - a ≤ k) ∧ Aside (D.size = n) ∧ Aside (Abv a b D) ∧ Aside (∀ R, Srt a b D R → Srt a0 b0 d R) ∧ Rw w0 blk cap U D wr)
  case atStart => exact ⟨a0, b0, l0, true, true, d, rfl, rfl, rfl, rfl, rfl, hab0, hb0, hl0, (show Aside _ from by have := hk.out; exact ⟨by omega, by omega⟩), hs0, hB0, (show Aside _ from fun R hR => hR), hR0⟩
  case round =>
    clear hR0 hB0 hs0
    obtain ⟨a, b, l, bal, prt, D, rfl, rfl, rfl, rfl, rfl, hab, hb, hl, hg, hs, hB, hT, hR⟩ := hrel
    obtain ⟨len, hlen⟩ : ∃ len : Nat, (b : Int) - (a : Int) = (len : Int) := ⟨b - a, by omega⟩
    have hlenA : Aside (a + len = b) := (by omega : a + len = b)
    by_cases h12 : len ≤ 12
    · have h12z : (len : Int) ≤ 12 := by omega
      have K := ins_any hR hs.out (by omega) a b hab hb
      go_wp2_with (go_at_call 118; refine K.mono ?_; clear K; rintro e w1 ⟨rfl, hR1⟩)
      refine bodyPost_ret (results_none rfl _ _ _) rfl ?_
      have := Sort.insertionSort_holds (lt := lt) swo D a b hab (by have := hs.out; omega)
      exact ⟨rfl, _, hT.out _ ⟨this.1, this.2⟩, hR1⟩
    · have h12z : ¬ (len : Int) ≤ 12 := by omega
      have hab' : a < b := by omega
      have hab12 : Aside (a + 12 < b) := (by omega : a + 12 < b)
      by_cases hl0 : l = 0
      · have hl0z : (l : Int) = 0 := by omega
        have K := heap_any hR hs.out (by omega) a b hab' hb
        go_wp2_with (go_at_call 119; refine K.mono ?_; clear K; rintro e w1 ⟨rfl, hR1⟩)
        refine bodyPost_ret (results_none rfl _ _ _) rfl ?_
        have := Sort.heapSort_holds (lt := lt) swo D a b hab (by have := hs.out; omega)
        exact ⟨rfl, _, hT.out _ ⟨this.1, this.2⟩, hR1⟩
      · have hl0z : ¬ (l : Int) = 0 := by omega
        have hl0b : ((l : Int) == 0) = false := by simpa using hl0z
        go_upto_if 35 with fail
        go_cut [3] from 34 to 41 (fun s w => ∃ (l' : Nat) (D' : Array Int), s = .int .i64 (l' : Int) ∧ l' ≤ 64 ∧ Aside (Pm a b D D') ∧ Rw w0 blk cap U D' w)
        case first =>
          cases bal with
          | true =>
            go_wp2
            go_meet
            case rel => exact ⟨l, D, rfl, hl, (show Aside _ from Pm.refl _ _ _), hR⟩
          | false =>
            have K := brk_any hR hs.out hsz a b hab12.out hb
            go_wp2_with (go_at_call 120; refine K.mono ?_; clear K; rintro e w1 ⟨rfl, D1, hP1, hR1⟩)
            go_meet
            case rel => exact ⟨l - 1, D1, by go_num, by omega, hP1, hR1⟩
        case rest =>
          clear hR
          obtain ⟨l1, D1, rfl, hl1, hP1, hR⟩ := hcut
          have hs1 : Aside (D1.size = n) := by show _ = _; rw [hP1.out.size]; exact hs.out
          have K := pivot_any hR hs1.out (by omega) a b hab12.out hb
          go_upto_if 50 with (go_at_call 121; refine K.mono ?_; clear K; rintro e w2 ⟨p, t, rfl, hap, hpb, ht, hR2⟩)
          go_cut [11, 12] from 49 to 60 (fun sp st w => ∃ (p' : Nat) (t' : Int) (D' : Array Int), sp = .int .i64 (p' : Int) ∧ st = .int .i64 t' ∧ a ≤ p' ∧ p' < b ∧ Aside (Pm a b D D') ∧ Rw w0 blk cap U D' w)
          case first =>
            by_cases ht2 : t = 2
            · subst ht2
              have K := rev_any hR2 hs1.out (by omega) a b hab' hb
              go_wp2_with (go_at_call 122; refine K.mono ?_; clear K; rintro e w3 ⟨rfl, D2, hP2, hR3⟩)
              go_meet
              case rel => exact ⟨b - 1 - (p - a), 1, D2, by first | go_num | (congr 1; omega), rfl, by omega, by omega, hP1.out.trans hP2, hR3⟩
            · go_wp2
              go_meet
              case rel => exact ⟨p, t, D1, rfl, rfl, hap, hpb, hP1, hR2⟩
          case rest =>
            clear hR hR2 hap hpb hs1 hP1 ht
            obtain ⟨p, t, D2, rfl, rfl, hap, hpb, hP2, hR⟩ := hcut
            have hs2 : Aside (D2.size = n) := by show _ = _; rw [hP2.out.size]; exact hs.out
            go_upto_region 15 with fail
            go_cut [68] from 61 to 68 (fun sb w => ∃ bb : Bool, sb = .bool bb ∧ Rw w0 blk cap U D2 w)
            case first =>
              have hR' := hR
              clear hR
              cases bal <;> cases prt
              case true.true =>
                by_cases ht1 : t = 1
                · have ht1b : (t == 1) = true := by simpa using ht1
                  go_wp2
                  go_meet
                  case rel => exact ⟨_, rfl, hR'⟩
                · have ht1b : (t == 1) = false := by simpa using ht1
                  go_wp2
                  go_meet
                  case rel => exact ⟨_, rfl, hR'⟩
              all_goals (go_wp2; go_meet; exact ⟨_, rfl, hR'⟩)
            case rest =>
              clear hR
              obtain ⟨bb, rfl, hR⟩ := hcut
              have hPB : Aside (Abv a b D2) := hB.out.perm (by have := hs.out; omega) hP2.out
              go_upto_if 68 with fail
              go_cut [] from 68 to 72 (fun w => ∃ (D' : Array Int), Aside (Pm a b D D') ∧ Rw w0 blk cap U D' w)
              case first =>
                cases bb with
                | false =>
                  go_wp2
                  go_meet
                  case rel => exact ⟨D2, hP2, hR⟩
                | true =>
                  have K := pins_any hR hs2.out (by omega) a b hab' hb
                  have hI := Sort.partialInsertionSort_holds (lt := lt) swo D2 a b hab' (by have := hs2.out; omega) hPB.out
                  generalize Sort.partialInsertionSort lt D2 a b = pi at K hI
                  obtain ⟨D3, ok⟩ := pi
                  have hIA : Aside (Pm a b D2 D3 ∧ (ok = true → Sort.SortedIn lt a b D3)) := hI
                  clear hI
                  have K : Calls Tryz.prog 123 _ _ fun e w' => e = .returned (.bool ok) ∧ Rw w0 blk cap U D3 w' := K
                  cases ok with
                  | true =>
                    go_wp2_with (go_at_call 123; refine K.mono ?_; clear K; rintro e w3 ⟨rfl, hR3⟩)
                    refine bodyPost_ret (results_none rfl _ _ _) rfl ?_
                    have hI := hIA.out
                    exact ⟨rfl, D3, hT.out _ ⟨hP2.out.trans hI.1, hI.2 (by simp)⟩, hR3⟩
                  | false =>
                    go_wp2_with (go_at_call 123; refine K.mono ?_; clear K; rintro e w3 ⟨rfl, hR3⟩)
                    go_meet
                    case rel => exact ⟨D3, hP2.out.trans hIA.out.1, hR3⟩
              case rest =>
                clear hR hP2 hs2 hPB
                obtain ⟨D3, hP3, hR⟩ := hcut
                have hs3 : Aside (D3.size = n) := by show _ = _; rw [hP3.out.size]; exact hs.out
                have hB3 : Aside (Abv a b D3) := hB.out.perm (by have := hs.out; omega) hP3.out
                have hT3 : Aside (∀ R, Srt a b D3 R → Srt a0 b0 d R) := fun R hR => hT.out R (Srt.of_perm hP3.out hR)
                go_upto_region 17 with fail
                go_cut [87] from 73 to 87 (fun sb w => ∃ bb : Bool, sb = .bool bb ∧ Aside (bb = true → 0 < a ∧ lt D3[a - 1]! D3[p]! = false) ∧ Rw w0 blk cap U D3 w)
                case first =>
                  by_cases ha : 0 < a
                  · obtain ⟨am, ham⟩ : ∃ am : Nat, (a : Int) - 1 = (am : Int) := ⟨a - 1, by omega⟩
                    have hamA : Aside (am = a - 1) := (by omega : am = a - 1)
                    have hdz : (0 : Int) < (a : Int) := by omega
                    have hd : decide ((a : Int) > 0) = true := decide_eq_true hdz
                    have hd2 : decide ((0 : Int) < (a : Int)) = true := decide_eq_true hdz
                    have bI : (am : Int) < (n : Int) := by omega
                    have bJ : (p : Int) < (n : Int) := by omega
                    have cI := hR.cell (i := am) (by have := hs3.out; omega)
                    have cJ := hR.cell (i := p) (by have := hs3.out; omega)
                    obtain ⟨vx, hvx⟩ : ∃ v, v = D3[am]! := ⟨_, rfl⟩
                    obtain ⟨vy, hvy⟩ : ∃ v, v = D3[p]! := ⟨_, rfl⟩
                    have hvxA : Aside (vx = D3[am]!) := hvx
                    have hvyA : Aside (vy = D3[p]!) := hvy
                    rw [← hvx] at cI
                    rw [← hvy] at cJ
                    have K := fun w => less_any vx vy w
                    clear hvx hvy
                    cases hl : lt vx vy with
                    | true =>
                      rw [show Sort.ltInt vx vy = true from hl] at K
                      have hlA : Aside (lt D3[am]! D3[p]! = true) := by rw [← hvxA.out, ← hvyA.out]; exact hl
                      clear hl hvxA hvyA
                      go_wp2_with fail
                      go_quiet (first | (go_at_call 124; exact Calls.quiet_of_same (K _)))
                      have hRq := hR.drewN nq
                      generalize wc.drewN nq = wcq at hRq ⊢
                      clear nq cI cJ K hR
                      go_wp2_with fail
                      go_meet
                      case rel => exact ⟨_, rfl, (show Aside _ from fun e => by cases e), hRq⟩
                    | false =>
                      rw [show Sort.ltInt vx vy = false from hl] at K
                      have hlA : Aside (lt D3[am]! D3[p]! = false) := by rw [← hvxA.out, ← hvyA.out]; exact hl
                      clear hl hvxA hvyA
                      go_wp2_with fail
                      go_quiet (first | (go_at_call 124; exact Calls.quiet_of_same (K _)))
                      have hRq := hR.drewN nq
                      generalize wc.drewN nq = wcq at hRq ⊢
                      clear nq cI cJ K hR
                      go_wp2_with fail
                      go_meet
                      case rel => exact ⟨_, rfl, (show Aside _ from fun _ => ⟨ha, by rw [← hamA.out]; exact hlA.out⟩), hRq⟩
                  · have hdz : ¬ (0 : Int) < (a : Int) := by omega
                    have hd : decide ((a : Int) > 0) = false := decide_eq_false hdz
                    have hd2 : decide ((0 : Int) < (a : Int)) = false := decide_eq_false hdz
                    go_wp2_with fail
                    go_region
                    go_wp2_with fail
                    go_meet
                    case rel => exact ⟨_, rfl, (show Aside _ from fun e => by cases e), hR.drew⟩
                case rest =>
                  clear hR
                  obtain ⟨bb, rfl, hbb, hR⟩ := hcut
                  cases bb with
                  | true =>
                    have K := parteq_any hR hs3.out (by omega) a b p hap hpb hb
                    go_wp2_with (go_at_call 125; refine K.mono ?_; clear K; rintro e w3 ⟨m, D4, rfl, hE, hR4⟩; have hm1 := hE.am; have hm2 := hE.mb)
                    have hEr := hE.round (by have := hs3.out; omega) (hbb.out (by simp)).1 hB3.out (hbb.out (by simp)).2
                    go_roundg (b - m)
                    case measure => have := hg.out; omega
                    case rel => exact ⟨m, b, l1, bal, prt, D4, rfl, rfl, rfl, rfl, rfl, by omega, hb, hl1, (show Aside _ from by have := hg.out; exact ⟨Nat.le_refl _, by omega⟩), (show Aside _ from by show _ = _; rw [hE.perm.size]; exact hs3.out), hEr.1, (show Aside _ from fun R hR => hT3.out R (hEr.2 R hR)), hR4⟩
                  | false =>
                    have K := part_any hR hs3.out (by omega) a b p hap hpb hb
                    have hlen8 : (len : Int).tdiv 8 = (len : Int) / 8 := Int.tdiv_eq_ediv_of_nonneg (by omega)
                    go_upto_if 113 with (go_at_call 126; refine K.mono ?_; clear K; rintro e w3 ⟨m, ap, D4, rfl, hE, hR4⟩; have hm1 := hE.am; have hm2 := hE.mb)
                    have hEr := hE.round (by have := hs3.out; omega) hB3.out
                    have hs4 : Aside (D4.size = n) := by show _ = _; rw [hE.perm.size]; exact hs3.out
                    have hErA : Aside (Abv a m D4 ∧ Abv (m + 1) b D4 ∧ (∀ L, Srt a m D4 L → Abv (m + 1) b L ∧ ∀ R, Srt (m + 1) b L R → Srt a b D3 R) ∧ (∀ L, Srt (m + 1) b D4 L → Abv a m L ∧ ∀ R, Srt a m L R → Srt a b D3 R)) := hEr
                    clear hEr hE
                    by_cases hsd : (m : Int) - (a : Int) < (b : Int) - (m : Int)
                    · have K := ih.out w0 w3 blk cap n U D4 a m l1 hR4 hs4.out hsz hm1 (by omega) hl1 hErA.out.1 (by have := hg.out; omega)
                      go_wp2_with (go_at_call 102; refine K.mono ?_; clear K; rintro e w5 ⟨rfl, L, hL, hR5⟩)
                      have hLr := hErA.out.2.2.1 L hL
                      go_roundg (b - (m + 1))
                      case measure => have := hg.out; omega
                      case rel => exact ⟨m + 1, b, l1, _, ap, L, by go_num, rfl, rfl, rfl, rfl, by omega, hb, hl1, (show Aside _ from by have := hg.out; exact ⟨Nat.le_refl _, by omega⟩), (show Aside _ from by show _ = _; rw [hL.1.size]; exact hs4.out), hLr.1, (show Aside _ from fun R hR => hT3.out R (hLr.2 R hR)), hR5⟩
                    · obtain ⟨m1, hm1z⟩ : ∃ m1 : Nat, (m : Int) + 1 = (m1 : Int) := ⟨m + 1, by omega⟩
                      have hm1A : Aside (m1 = m + 1) := (by omega : m1 = m + 1)
                      have K := ih.out w0 w3 blk cap n U D4 m1 b l1 hR4 hs4.out hsz (by omega) hb hl1 (by rw [hm1A.out]; exact hErA.out.2.1) (by have := hg.out; omega)
                      go_wp2_with (go_at_call 102; refine K.mono ?_; clear K; rintro e w5 ⟨rfl, L, hL, hR5⟩)
                      rw [hm1A.out] at hL
                      have hLr := hErA.out.2.2.2 L hL
                      go_roundg (m - a)
                      case measure => have := hg.out; omega
                      case rel => exact ⟨a, m, l1, _, ap, L, rfl, rfl, rfl, rfl, rfl, hm1, by omega, hl1, (show Aside _ from by have := hg.out; exact ⟨Nat.le_refl _, by omega⟩), (show Aside _ from by show _ = _; rw [hL.1.size]; exact hs4.out), hLr.1, (show Aside _ from fun R hR => hT3.out R (hLr.2 R hR)), hR5⟩

theorem pdq_any (k : Nat) : Sorts30 k := by
  induction k with
  | zero => intro w0 w blk cap n U d a b l _ _ _ _ _ _ _ h; omega
  | succ k ih => exact pdq_step k ih

set_option maxHeartbeats 4000000 in
/-- The row is sorted. -/
theorem sort_any {w0 w : World} {blk cap n : Nat} {U : Nat → Value} {d : Array Int} (h : Rw w0 blk cap U d w) (hn : d.size = n) (hsz : n < 65536) :
    Calls Tryz.prog 90 #[.slice (some ⟨blk, 0, none⟩) n cap] w fun e w' => e = .returned (.tuple #[]) ∧ ∃ R, Srt 0 n d R ∧ Rw w0 blk cap U R w' := by
  have K := len_any n hsz w
  have hl := Lib.bitLen_le n 16 (by omega) (by omega)
  have hw : IntKind.u64.wrap (n : Int) = (n : Int) := by rw [IntKind.wrap_u64]; omega
  generalize Lib.bitLen n = l at K hl
  have K2 := pdq_any (n + 1) w0 w blk cap n U d 0 n l h hn hsz (Nat.zero_le _) (Nat.le_refl _) (by omega) (.inl rfl) (by omega)
  go_enter Tryz.func90, Tryz.ntmps90
  go_wp2_with (first
    | (go_at_call 103; refine K.mono ?_; clear K; rintro e w ⟨rfl, rfl⟩)
    | (go_at_call 102; refine K2.mono ?_; clear K2; rintro e w2 ⟨rfl, R, hR, h2⟩))
  go_end0
  exact ⟨rfl, R, hR, h2⟩
end Go.Proofs.YteickckgljlacaaGreat.Rs

namespace Go.Proofs.YteickckgljlacaaGreat.Rs
open Go Go.RowKit
set_option maxHeartbeats 4000000 in
theorem ins_none (v : Option Addr) (cap : Nat) (w : World) : Calls Tryz.prog 118 #[.slice v 0 cap, .int .i64 0, .int .i64 0] w fun e w' => e = .returned (.tuple #[]) ∧ w' = w := by
  go_enter Tryz.func118, Tryz.ntmps118
  go_wp2
  go_loopg [6] 1 (fun _ s wr => s = .int .i64 1 ∧ wr = w)
  case atStart => exact ⟨rfl, rfl⟩
  case round =>
    obtain ⟨rfl, rfl⟩ := hrel
    go_wp2
    go_end0
    exact ⟨rfl, rfl⟩
set_option maxHeartbeats 4000000 in
set_option maxRecDepth 100000 in
theorem pdq_none (v : Option Addr) (cap : Nat) (w : World) : Calls Tryz.prog 102 #[.slice v 0 cap, .int .i64 0, .int .i64 0, .int .i64 0] w fun e w' => e = .returned (.tuple #[]) ∧ w' = w := by
  have K := ins_none v cap w
  go_enter Tryz.func102, Tryz.ntmps102
  go_wp2
  go_loopg [1, 2, 3, 8, 9] 1 (fun _ s1 s2 s3 s8 s9 wr => s1 = .int .i64 0 ∧ s2 = .int .i64 0 ∧ s3 = .int .i64 0 ∧ s8 = .bool true ∧ s9 = .bool true ∧ wr = w)
  case atStart => exact ⟨rfl, rfl, rfl, rfl, rfl, rfl⟩
  case round =>
    obtain ⟨rfl, rfl, rfl, rfl, rfl, rfl⟩ := hrel
    go_wp2_with (go_at_call 118; refine K.mono ?_; clear K; rintro e w1 ⟨rfl, rfl⟩)
    refine bodyPost_ret (results_none rfl _ _ _) rfl ?_
    exact ⟨rfl, rfl⟩
set_option maxHeartbeats 4000000 in
theorem sort_none (v : Option Addr) (cap : Nat) (w : World) : Calls Tryz.prog 90 #[.slice v 0 cap] w fun e w' => e = .returned (.tuple #[]) ∧ w' = w := by
  have K : Calls Tryz.prog 103 #[.int .u64 0] w fun e w' => e = .returned (.int .i64 0) ∧ w' = w := len_any 0 (by omega) w
  have K2 := pdq_none v cap w
  go_enter Tryz.func90, Tryz.ntmps90
  go_wp2_with (first
    | (go_at_call 103; refine K.mono ?_; clear K; rintro e w1 ⟨rfl, rfl⟩)
    | (go_at_call 102; refine K2.mono ?_; clear K2; rintro e w2 ⟨rfl, rfl⟩))
  go_end0
  exact ⟨rfl, rfl⟩
end Go.Proofs.YteickckgljlacaaGreat.Rs

namespace Go.Proofs.YteickckgljlacaaGreat.Rs
open Go Go.RowKit

/-- The first n of a row. -/
def lst (d : Array Int) (n : Nat) : List Int := (List.range n).map fun k => d[k]!
theorem lst_succ (d : Array Int) (n : Nat) : lst d (n + 1) = lst d n ++ [d[n]!] := by simp [lst, List.range_succ]
theorem lst_congr {d D : Array Int} {n : Nat} (h : ∀ k, k < n → d[k]! = D[k]!) : lst d n = lst D n := by
  unfold lst
  apply List.map_congr_left
  intro k hk
  exact h k (List.mem_range.1 hk)
theorem lst_mem {d : Array Int} {n : Nat} {x : Int} : x ∈ lst d n ↔ ∃ k, k < n ∧ d[k]! = x := by simp [lst]
theorem lst_len (d : Array Int) (n : Nat) : (lst d n).length = n := by simp [lst]
theorem get_cut (D : Array Int) (k i : Nat) (hk : k ≤ D.size) (hi : i < k) : (D.extract 0 k)[i]! = D[i]! := by
  rw [getElem!_pos _ i (by simp; omega), getElem!_pos D i (by omega)]
  simp
theorem row_setCells {t : TypeId} {n b : Nat} : ∀ (vs : List Value) (o : Nat) (w : World) (f : Nat → Value), w.rowIs b t n f → ∃ f', (∀ j, j < o → f' j = f j) ∧ (w.setCells b o vs).rowIs b t n f' ∧ Went (fun k => k = b) w (w.setCells b o vs)
  | [], o, w, f, h => ⟨f, fun _ _ => rfl, h, Went.refl _ _⟩
  | v :: vs, o, w, f, h => by
    obtain ⟨f', h1, h2, h3⟩ := row_setCells vs (o + 1) (w.setCell ⟨b, o, none⟩ v) _ (h.set o v)
    refine ⟨f', fun j hj => ?_, h2, (Went.set (S := fun k => k = b) rfl w v).trans h3⟩
    rw [h1 j (by omega), if_neg (by omega)]
theorem zero29 (w : World) : (zeroValue 38).run Tryz.prog w = .ok (.int .u32 0) w := by kernel_rfl
section
variable {w0 w : World} {blk cap n : Nat} {U : Nat → Value} {d : Array Int}
/-- The row cut off at k, whatever lies behind. -/
theorem Rw.cut (h : Rw w0 blk cap U d w) (k : Nat) (hk : k ≤ d.size) : ∃ U', Rw w0 blk cap U' (d.extract 0 k) w := by
  refine ⟨rowf d U, ⟨h.row.congr fun j hj => ?_, by have := h.le; simp; omega, h.went, h.old⟩⟩
  show rowf d U j = rowf (d.extract 0 k) (rowf d U) j
  rw [rowf.eq_def (d.extract 0 k)]
  have hs : (d.extract 0 k).size = k := by simp; omega
  rw [hs]
  split
  · rename_i hj
    rw [rowf, if_pos (by omega), get_cut d k j hk hj]
  · rfl
theorem clear_any (h : Rw w0 blk cap U d w) (hn : d.size = n) (k : Nat) (hk : k < n) :
    ∃ w', (∀ ty c, (Builtin.clear_ #[44] ty #[.slice (some ⟨blk, k, none⟩) (n - k) c]).run Tryz.prog w = .ok (.tuple #[]) w') ∧ ∃ U', Rw w0 blk cap U' (d.extract 0 k) w' := by
  obtain ⟨U', h'⟩ := h.cut k (by omega)
  obtain ⟨f', h1, h2, h3⟩ := row_setCells (List.replicate (n - k) (.int .u32 0)) k w _ h'.row
  refine ⟨_, fun ty c => Lib.run_clear_slice w 44 38 ty _ Tryz.underlying44 zero29 rfl rfl blk k (n - k) c (by omega) (fun t ht => ?_) (fun t ht => ?_), f', ⟨h2.congr fun j hj => ?_, h'.le, h'.went.trans h3, h.old⟩⟩
  · rw [h.cell (i := k + t) (by omega)]; rfl
  · exact h.free (k + t)
  · have hs : (d.extract 0 k).size = k := by simp; omega
    by_cases c : j < k
    · rw [h1 j c, rowf, rowf, hs, if_pos c, if_pos c]
    · rw [rowf, hs, if_neg c]
end

/-- The constants. -/
def cst (x : Int) : Bool := decide (x = 0 ∨ x = 1)
def nc (x : Int) : Bool := !cst x
end Go.Proofs.YteickckgljlacaaGreat.Rs

namespace Go.Proofs.YteickckgljlacaaGreat.Rs
open Go Go.RowKit

/-- Of the first j of d the first k of D are left, each once. -/
structure Cp (d D : Array Int) (j k : Nat) : Prop where
  size : D.size = d.size
  kj : k ≤ j
  k0 : 0 < k
  same : ∀ i, k ≤ i → D[i]! = d[i]!
  inc : ∀ i i', i < i' → i' < k → D[i]! < D[i']!
  mem : ∀ x, x ∈ lst D k ↔ x ∈ lst d j
  last : D[k - 1]! = d[j - 1]!
section
variable {d D : Array Int} {j k : Nat}
theorem Cp.start (d : Array Int) : Cp d d 1 1 := ⟨rfl, Nat.le_refl _, by omega, fun _ _ => rfl, fun i i' h1 h2 => by omega, fun _ => Iff.rfl, rfl⟩
theorem Cp.skip (h : Cp d D j k) (he : d[j]! = d[j - 1]!) : Cp d D (j + 1) k := by
  have hk := h.k0
  have hj := h.kj
  refine ⟨h.size, by omega, hk, h.same, h.inc, fun x => ?_, by rw [Nat.add_sub_cancel, he]; exact h.last⟩
  rw [h.mem x, lst_succ, List.mem_append]
  constructor
  · exact .inl
  · rintro (hx | hx)
    · exact hx
    · simp only [List.mem_singleton] at hx
      rw [hx, he]
      exact lst_mem.2 ⟨j - 1, by omega, rfl⟩
theorem Cp.take (h : Cp d D j k) (hj : j < d.size) (hs : d[j - 1]! ≤ d[j]!) (hne : ¬ d[j]! = d[j - 1]!) : Cp d (D.setIfInBounds k d[j]!) (j + 1) (k + 1) := by
  have hk0 := h.k0
  have hkj := h.kj
  have hkD : k < D.size := by rw [h.size]; omega
  have hlt : D[k - 1]! < d[j]! := by rw [h.last]; omega
  have hg := get_set D k d[j]! hkD
  refine ⟨by simpa using h.size, by omega, by omega, fun i hi => by rw [hg, if_neg (by omega)]; exact h.same i (by omega), fun i i' h1 h2 => ?_, fun x => ?_, by rw [Nat.add_sub_cancel, hg, if_pos rfl, Nat.add_sub_cancel]⟩
  · rw [hg, hg, if_neg (by omega)]
    by_cases e : i' = k
    · rw [if_pos e]
      by_cases e2 : i = k - 1
      · rw [e2]; exact hlt
      · exact Int.lt_trans (h.inc i (k - 1) (by omega) (by omega)) hlt
    · rw [if_neg e]
      exact h.inc i i' h1 (by omega)
  · rw [lst_succ, lst_succ, hg, if_pos rfl, lst_congr (d := D.setIfInBounds k d[j]!) (D := D) fun i hi => by rw [hg, if_neg (by omega)]]
    rw [List.mem_append, List.mem_append, h.mem x]
/-- As long as nothing has come twice. -/
theorem Cp.on (h : Cp d d k k) (hk : k < d.size) (hs : d[k - 1]! ≤ d[k]!) (hne : ¬ d[k]! = d[k - 1]!) : Cp d d (k + 1) (k + 1) := by
  have := h.take hk hs hne
  have e : d.setIfInBounds k d[k]! = d := by
    apply Array.ext
    · simp
    · intro i h1 h2
      simp only [Array.getElem_setIfInBounds h2]
      split
      · rename_i e; subst e; rw [getElem!_pos d k hk]
      · rfl
  rw [e] at this
  exact this
theorem Cp.pairs (h : Cp d D j k) : (lst D k).Pairwise (· < ·) := by
  rw [List.pairwise_iff_getElem]
  intro i i' h1 h2 h3
  rw [lst_len] at h1 h2
  simp only [lst, List.getElem_map, List.getElem_range]
  exact h.inc i i' h3 h2
end

/-- The same handles. -/
def Same (l l' : List Int) : Prop := ∀ x, x ∈ l ↔ x ∈ l'
theorem Same.refl (l : List Int) : Same l l := fun _ => Iff.rfl

end Go.Proofs.YteickckgljlacaaGreat.Rs

namespace Go.Proofs.YteickckgljlacaaGreat.Rs
open Go Go.RowKit

abbrev hV (x : Int) : Value := .int .u32 x
/-- The block of a slice. -/
def At (ad : Option Addr) : Nat → Prop := fun k => ∃ a, ad = some a ∧ a.block = k
/-- The slice has these handles: nil, or the head of a block. -/
def OwnH (w : World) (ad : Option Addr) (cap : Nat) (xs : List Int) : Prop := w.ownsRow 0 38 1 (.slice ad xs.length cap) xs.length (xs.map hV)

section
variable {w w' w0 : World} {cap : Nat} {ad : Option Addr} {xs : List Int}
theorem OwnH.block (h : OwnH w ad cap xs) : ∀ k, At ad k → k < w.heap.size := by
  rintro k ⟨a, rfl, rfl⟩
  exact (World.ownsRow.lt h a.block rfl).2
theorem OwnH.kind (h : OwnH w ad cap xs) : ∀ k, At ad k → ∃ cur, w.heap[k]? = some (.cells cur 38 (0, 0)) := by
  rintro k ⟨a, rfl, rfl⟩
  rcases h.2 with ⟨h2, _⟩ | ⟨g, cap', cur, hv, hb, hh, _⟩
  · cases h2
  · injection hv with hv
    injection hv with hv
    subst hv
    exact ⟨cur, hh⟩
theorem OwnH.kept (h : OwnH w ad cap xs) (k : ∀ b, At ad b → w'.heap[b]? = w.heap[b]?) : OwnH w' ad cap xs := by
  obtain ⟨h1, h2⟩ := h
  refine ⟨h1, ?_⟩
  rcases h2 with h2 | ⟨g, cap', cur, hv, hb, hh, r⟩
  · exact .inl h2
  · have had : ad = some ⟨g, 0, none⟩ := by injection hv
    exact .inr ⟨g, cap', cur, hv, hb, (k g ⟨_, had, rfl⟩).trans hh, r⟩
theorem OwnH.nil (w : World) : OwnH w none 0 [] := World.ownsRow_nil w 0 38 1
theorem OwnH.form (h : OwnH w ad cap xs) (hn : 0 < xs.length) : ∃ g, ad = some ⟨g, 0, none⟩ := by
  obtain ⟨g, cap', hv, hb, hlt⟩ := World.ownsRow.form h hn
  exact ⟨g, by injection hv⟩
theorem OwnH.max (h : OwnH w ad cap xs) : cap ≤ maxLen ∧ xs.length ≤ cap := by
  rcases h.2 with ⟨h2, h3⟩ | ⟨g, cap', cur, hv, hb, hh, r1, r2, r3⟩
  · injection h2 with e1 e2 e3
    subst e3
    exact ⟨Nat.zero_le _, by omega⟩
  · injection hv with e1 e2 e3
    subst e3
    exact ⟨r2, r1⟩
/-- Nil, or a row at the head of a block. -/
theorem OwnH.parts (h : OwnH w ad cap xs) : (ad = none ∧ cap = 0 ∧ xs = []) ∨ ∃ g U, ad = some ⟨g, 0, none⟩ ∧ Rw w g cap U xs.toArray w := by
  rcases h.2 with ⟨h2, h3⟩ | ⟨g, cap', cur, hv, hb, hh, r1, r2, r3, r4⟩
  · injection h2 with e1 e2 e3
    exact .inl ⟨e1, e3, List.length_eq_zero_iff.1 h3⟩
  · injection hv with e1 e2 e3
    subst e3
    refine .inr ⟨g, fun i => (cur[i]?).getD default, e1, ⟨⟨cur, hh, by omega, fun i hi => ?_⟩, by simpa using r1, Went.refl _ _, (Array.getElem?_eq_some_iff.1 hh).1⟩⟩
    unfold rowf
    split
    · rename_i hix
      have hix : i < xs.length := by simpa using hix
      have := congrArg (·[i]?) r4
      simp only [List.getElem?_map, List.getElem?_take, Nat.mul_one, if_pos hix, List.getElem?_eq_getElem hix, Option.map_some, Array.getElem?_toList] at this
      rw [this, getElem!_pos _ i (by simpa using hix)]
      simp
    · have hic : i < cur.size := by omega
      simp [Array.getElem?_eq_getElem hic]
theorem OwnH.of_rw {g : Nat} {U : Nat → Value} {d : Array Int} (h : Rw w0 g cap U d w) (hc : cap ≤ maxLen) : OwnH w (some ⟨g, 0, none⟩) cap d.toList := by
  obtain ⟨c, hb, hn, hf⟩ := h.row
  have hle := h.le
  refine ⟨by simp, .inr ⟨g, cap, c, by simp, Nat.zero_le _, hb, by simpa using hle, hc, by omega, ?_⟩⟩
  apply List.ext_getElem?
  intro i
  simp only [Array.length_toList, Nat.mul_one, List.getElem?_take, List.getElem?_map, Array.getElem?_toList]
  by_cases hi : i < d.size
  · rw [if_pos hi, hf i (by omega), rowf, if_pos hi, Array.getElem?_eq_getElem hi, getElem!_pos d i hi]
    rfl
  · rw [if_neg hi, Array.getElem?_eq_none (by omega)]
    rfl
theorem OwnH.cell {g : Nat} (h : OwnH w (some ⟨g, 0, none⟩) cap xs) {i : Nat} (hi : i < xs.length) : w.cell? ⟨g, i, none⟩ = some (.int .u32 xs[i]!) := by
  rw [World.ownsRow.cellAt h i (by omega)]
  simp [hi]
theorem OwnH.cut (h : OwnH w ad cap xs) (k : Nat) (hk : k ≤ xs.length) : w.ownsRow 0 38 1 (.slice ad k cap) k ((xs.take k).map hV) := by
  rcases h.parts with ⟨rfl, rfl, rfl⟩ | ⟨g, U, rfl, hR⟩
  · have : k = 0 := by simpa using hk
    subst this
    exact World.ownsRow_nil w 0 38 1
  · obtain ⟨U', hR'⟩ := hR.cut k (by simpa using hk)
    have := OwnH.of_rw hR' h.max.1
    have e : (xs.toArray.extract 0 k).toList = xs.take k := by simp
    unfold OwnH at this
    rw [e] at this
    rwa [show (xs.take k).length = k by simp; omega] at this
end

/-! ## One handle more -/
/-! ## Stacks -/
/-- A function with one value turned. -/
def up {α : Type} (f : Nat → α) (i : Nat) (v : α) : Nat → α := fun k => if k = i then v else f k
theorem up_same {α : Type} (f : Nat → α) (i : Nat) (v : α) : up f i v i = v := if_pos rfl
theorem up_other {α : Type} (f : Nat → α) {i k : Nat} (v : α) (h : k ≠ i) : up f i v k = f k := if_neg h
/-- The block S has n slices, no two of them in one block. -/
structure Stk (w : World) (S n : Nat) (A : Nat → Option Addr) (C : Nat → Nat) (T : Nat → List Int) : Prop where
  row : w.rowIs S 44 n (fun k => .slice (A k) (T k).length (C k))
  own : ∀ k, k < n → OwnH w (A k) (C k) (T k)
  apart : ∀ i j, i < n → j < n → i ≠ j → ∀ b, At (A i) b → ¬ At (A j) b
/-- Its blocks. -/
def Fs (S n : Nat) (A : Nat → Option Addr) : Nat → Prop := fun b => b = S ∨ ∃ k, k < n ∧ At (A k) b
section
variable {w w' : World} {S n : Nat} {A : Nat → Option Addr} {C : Nat → Nat} {T : Nat → List Int}
theorem Stk.lt (h : Stk w S n A C T) : ∀ b, Fs S n A b → b < w.heap.size := by
  rintro b (rfl | ⟨k, hk, hb⟩)
  · exact h.row.lt
  · exact (h.own k hk).block b hb
theorem Stk.kept (h : Stk w S n A C T) (k : ∀ b, Fs S n A b → w'.heap[b]? = w.heap[b]?) : Stk w' S n A C T :=
  ⟨h.row.of_block (k S (.inl rfl)), fun i hi => (h.own i hi).kept fun b hb => k b (.inr ⟨i, hi, hb⟩), h.apart⟩
theorem Stk.ne (h : Stk w S n A C T) {k : Nat} (hk : k < n) : ¬ At (A k) S := by
  intro hA
  obtain ⟨cur, hc⟩ := (h.own k hk).kind S hA
  obtain ⟨c, hb, _⟩ := h.row
  rw [hb] at hc
  cases hc
theorem Stk.slice (h : Stk w S n A C T) {k : Nat} (hk : k < n) : w.cell? ⟨S, k, none⟩ = some (.slice (A k) (T k).length (C k)) := h.row.cell hk
theorem Stk.free (h : Stk w S n A C T) (k : Nat) : w.frozen? ⟨S, k, none⟩ = false := h.row.frozen k
/-- One of them is another slice from now on. -/
theorem Stk.turn {w1 : World} (h : Stk w S n A C T) {i : Nat} (hi : i < n) {ad : Option Addr} {cap : Nat} {xs : List Int} (bw : Went (At (A i)) w w1) (o : OwnH w1 ad cap xs) (hw : ∀ g, At ad g → At (A i) g ∨ w.heap.size ≤ g) :
    Stk (w1.setCell ⟨S, i, none⟩ (.slice ad xs.length cap)) S n (up A i ad) (up C i cap) (up T i xs) := by
  have hS1 : w1.heap[S]? = w.heap[S]? := bw.block S h.row.lt (h.ne hi)
  have hne : ∀ k, k < n → ∀ g, At (A k) g → g ≠ S := fun k hk g hg e => h.ne hk (e ▸ hg)
  have hadS : ∀ g, At ad g → g ≠ S := fun g hg e => by
    rcases hw g hg with h1 | h1
    · exact hne i hi g h1 e
    · have := h.row.lt; omega
  refine ⟨((h.row.of_block hS1).set i _).congr fun k hk => ?_, fun k hk => ?_, fun i1 i2 h1 h2 hne12 b hb1 hb2 => ?_⟩
  · by_cases e : k = i
    · subst e; simp [up]
    · simp [up, e]
  · by_cases e : k = i
    · subst e
      rw [up_same, up_same, up_same]
      exact o.kept fun g hg => Below.heap_setCell _ _ _ _ (hadS g hg)
    · rw [up_other _ _ e, up_other _ _ e, up_other _ _ e]
      refine (h.own k hk).kept fun g hg => ?_
      rw [Below.heap_setCell _ _ _ _ (hne k hk g hg)]
      exact bw.block g ((h.own k hk).block g hg) fun hg2 => h.apart k i hk hi e g hg hg2
  · by_cases e1 : i1 = i
    · subst e1
      rw [up_same] at hb1
      rw [up_other _ _ (fun e => hne12 e.symm)] at hb2
      rcases hw b hb1 with h3 | h3
      · exact h.apart i1 i2 h1 h2 hne12 b h3 hb2
      · have := (h.own i2 h2).block b hb2; omega
    · rw [up_other _ _ e1] at hb1
      by_cases e2 : i2 = i
      · subst e2
        rw [up_same] at hb2
        rcases hw b hb2 with h3 | h3
        · exact h.apart i1 i2 h1 h2 hne12 b hb1 h3
        · have := (h.own i1 h1).block b hb1; omega
      · rw [up_other _ _ e2] at hb2
        exact h.apart i1 i2 h1 h2 hne12 b hb1 hb2
/-- A slice cut off. -/
theorem Stk.cut (h : Stk w S n A C T) {i : Nat} (hi : i < n) (k : Nat) (hk : k ≤ (T i).length) : Stk (w.setCell ⟨S, i, none⟩ (.slice (A i) k (C i))) S n A C (up T i ((T i).take k)) := by
  have hl : ((T i).take k).length = k := by simp; omega
  have o : OwnH w (A i) (C i) ((T i).take k) := by
    have := (h.own i hi).cut k hk
    unfold OwnH
    rw [hl]
    exact this
  have := h.turn hi (Went.refl _ w) o (fun g hg => .inl hg)
  have e1 : up A i (A i) = A := funext fun j => by unfold up; split <;> simp_all
  have e2 : up C i (C i) = C := funext fun j => by unfold up; split <;> simp_all
  rw [e1, e2, hl] at this
  exact this
end
end Go.Proofs.YteickckgljlacaaGreat.Rs

namespace Go.Proofs.YteickckgljlacaaGreat.Rs
open Go Go.RowKit

theorem perm_of_pm {n : Nat} {d R : Array Int} (h : Pm 0 n d R) (hn : d.size = n) : R.toList.Perm d.toList := by
  have h1 := h.size
  have h2 := h.2.2
  rw [show R.extract 0 n = R by rw [← hn, ← h1]; simp, show d.extract 0 n = d by rw [← hn]; simp] at h2
  exact h2
theorem Went.at_blk {g : Nat} {w w' : World} (h : Went (fun k => k = g) w w') : Went (At (some ⟨g, 0, none⟩)) w w' := h.wider fun _ e => ⟨_, rfl, e.symm⟩
section
variable {w : World} {ad : Option Addr} {cap : Nat} {xs : List Int}
theorem sortH (h : OwnH w ad cap xs) (hn : xs.length < 65536) :
    Calls Tryz.prog 90 #[.slice ad xs.length cap] w fun e w' => e = .returned (.tuple #[]) ∧ ∃ ys, ys.Perm xs ∧ (∀ i, i + 1 < ys.length → ys[i]! ≤ ys[i + 1]!) ∧ OwnH w' ad cap ys ∧ Went (At ad) w w' := by
  rcases h.parts with ⟨rfl, rfl, rfl⟩ | ⟨g, U, rfl, hR⟩
  · refine (sort_none none 0 w).mono ?_
    rintro e w' ⟨rfl, rfl⟩
    exact ⟨rfl, [], .refl _, by simp, OwnH.nil _, Went.refl _ _⟩
  · refine (sort_any hR (by simp) hn).mono ?_
    rintro e w' ⟨rfl, R, hS, hR'⟩
    have hp := perm_of_pm hS.1 (by simp)
    refine ⟨rfl, R.toList, by simpa using hp, fun i hi => ?_, OwnH.of_rw hR' h.max.1, hR'.went.at_blk⟩
    have hsz : R.size = xs.length := by rw [hS.1.size]; simp
    have hi' : i + 1 < R.size := by simpa using hi
    have := hS.2 i (i + 1) (by omega) (by omega) (by omega)
    have h2 : ¬ R[i + 1]! < R[i]! := by simpa [Sort.ltInt] using this
    rw [getElem!_pos R.toList i (by simp; omega), getElem!_pos R.toList (i + 1) (by simpa using hi')]
    rw [getElem!_pos R i (by omega), getElem!_pos R (i + 1) hi'] at h2
    simpa using h2
end

/-! ## The keys of a map, as a slice of the call's own -/
theorem own_of_row {w : World} {B : Nat} {v : Value} {xs : List Int} (h : w.ownsRow B 38 1 v xs.length (xs.map hV)) : ∃ ad cap, v = .slice ad xs.length cap ∧ OwnH w ad cap xs ∧ ∀ k, At ad k → B ≤ k := by
  rcases h with ⟨h1, ⟨rfl, h2⟩ | ⟨g, cap, cur, rfl, hb, r⟩⟩
  · have : xs = [] := List.length_eq_zero_iff.1 h2
    subst this
    exact ⟨none, 0, rfl, OwnH.nil _, fun k hk => by obtain ⟨a, ha, _⟩ := hk; cases ha⟩
  · exact ⟨_, cap, rfl, ⟨h1, .inr ⟨g, cap, cur, rfl, Nat.zero_le _, r⟩⟩, fun k hk => by obtain ⟨a, ha, rfl⟩ := hk; cases ha; exact hb⟩
theorem up_chain {l : List Int} (h : ∀ i, i + 1 < l.length → l[i]! ≤ l[i + 1]!) : ∀ k i, i + k < l.length → l[i]! ≤ l[i + k]!
  | 0, i, _ => Int.le_refl _
  | k + 1, i, hi => Int.le_trans (up_chain h k i (by omega)) (h (i + k) (by omega))
theorem strict_of {l : List Int} (hn : l.Nodup) (h : ∀ i, i + 1 < l.length → l[i]! ≤ l[i + 1]!) : l.Pairwise (· < ·) := by
  rw [List.pairwise_iff_getElem]
  intro i j hi hj hij
  have h1 := up_chain h (j - i) i (by omega)
  rw [show i + (j - i) = j by omega, getElem!_pos l i hi, getElem!_pos l j hj] at h1
  have h2 : l[i] ≠ l[j] := fun e => by
    have := (List.getElem?_inj hi hn).1 (show l[i]? = l[j]? by rw [List.getElem?_eq_getElem hi, List.getElem?_eq_getElem hj, e])
    omega
  omega
theorem Keys.perm {P : Int → Option Int} {xs ys : List Int} (h : Keys P xs) (p : ys.Perm xs) : Keys P ys := ⟨p.nodup_iff.2 h.1, fun x => (p.mem_iff).trans (h.2 x)⟩

end Go.Proofs.YteickckgljlacaaGreat.Rs

namespace Go.Proofs.YteickckgljlacaaGreat.Rm
open Rs (OwnH At own_of_row sortH strict_of Went)
open Go Go.RowKit
set_option maxHeartbeats 4000000 in
theorem keys_any (mb : Option Nat) (w : World) :
    Calls Tryz.prog 81 #[.map mb] w fun e w' => e = .returned (.func (.func 91) #[] #[.pointer (some ⟨w.heap.size, 0, none⟩)]) ∧ w' = w.alloc (.cells #[.map mb] 150) := by
  have hmf : ∀ (w : World), (Instr.makeFunc (.func 91) #[] #[.pointer (some ⟨w.heap.size, 0, none⟩)]).run Tryz.prog w = .ok (.func (.func 91) #[] #[.pointer (some ⟨w.heap.size, 0, none⟩)]) w := fun w => rfl
  go_enter Tryz.func81, Tryz.ntmps81
  go_wp2
  go_ret
  exact ⟨rfl, rfl⟩

theorem Keys.perm {P : Int → Option Int} {xs ys : List Int} (h : Keys P xs) (p : ys.Perm xs) : Keys P ys := ⟨p.nodup_iff.2 h.1, fun x => (p.mem_iff).trans (h.2 x)⟩

set_option maxHeartbeats 4000000 in
theorem collect_any (Bm m : Nat) (mb : Option Nat) (P : Int → Option Int) (w : World) (hm : m ≤ 60000) (hBm : Bm < w.heap.size) (hc : w.cell? ⟨Bm, 0, none⟩ = some (.map mb)) (hmap : MapV w mb P m) :
    Calls Tryz.prog 89 #[.func (.func 91) #[] #[.pointer (some ⟨Bm, 0, none⟩)]] w fun e w' => ∃ ad cap xs, e = .returned (.slice ad xs.length cap) ∧ Keys P xs ∧ xs.length ≤ m ∧ OwnH w' ad cap xs ∧ (∀ k, At ad k → w.heap.size ≤ k) ∧ Below w.heap.size w w' := by
  have K := appendSeq_any Bm m mb P w (by omega) hBm hc hmap
  clear hc
  go_enter Tryz.func89, Tryz.ntmps89
  go_wp2_with (go_at_call 101; refine K.mono ?_; clear K; rintro e w' ⟨v, xs, rfl, hK, hx, hrow, _, hB⟩)
  go_ret
  obtain ⟨ad, cap, rfl, ho, hA⟩ := own_of_row hrow
  exact ⟨ad, cap, xs, rfl, hK, hx, ho, hA, hB⟩

set_option maxHeartbeats 4000000 in
theorem sorted_any (Bm m : Nat) (mb : Option Nat) (P : Int → Option Int) (w : World) (hm : m ≤ 60000) (hBm : Bm < w.heap.size) (hc : w.cell? ⟨Bm, 0, none⟩ = some (.map mb)) (hmap : MapV w mb P m) :
    Calls Tryz.prog 80 #[.func (.func 91) #[] #[.pointer (some ⟨Bm, 0, none⟩)]] w fun e w' => ∃ ad cap xs, e = .returned (.slice ad xs.length cap) ∧ Keys P xs ∧ xs.Pairwise (· < ·) ∧ xs.length ≤ m ∧ OwnH w' ad cap xs ∧ (∀ k, At ad k → w.heap.size ≤ k) ∧ Below w.heap.size w w' := by
  have K := collect_any Bm m mb P w hm hBm hc hmap
  clear hc
  go_enter Tryz.func80, Tryz.ntmps80
  go_wp2_with (first
    | (go_at_call 89; refine K.mono ?_; clear K; rintro e w1 ⟨ad, cap, xs, rfl, hK, hx, ho, hA, hB⟩; have K2 := sortH ho (by omega))
    | (go_at_call 90; refine K2.mono ?_; clear K2; rintro e w2 ⟨rfl, ys, hp, hs, ho2, hw2⟩))
  go_ret
  have hl : ys.length = xs.length := hp.length_eq
  have hK2 := hK.perm hp
  refine ⟨ad, cap, ys, ?_, hK2, strict_of hK2.1 hs, by omega, ho2, hA, ?_⟩
  · rw [hl]
    rfl
  · exact hB.trans ((hw2.below (B := w.heap.size) hB.size fun i hi => hA i hi))
end Go.Proofs.YteickckgljlacaaGreat.Rm
