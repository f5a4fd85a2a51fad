/-
  Maps from numbers to numbers: what is looked up, laid and struck, as a function of the key.
-/
import Derived.Test.YtdmfbfbebcneeaaMem
import Derived.WalkKit
import Derived.Handy
import Derived.MapKept
import Derived.Carry
import Derived.Deep.OwnRows
namespace Go.Proofs.Ytdmfbfbebcneeaa
open Go Go.RowKit

/-- What a list of pairs tells at a key. -/
def look : List (Int × Int) → Int → Option Int
  | [], _ => none
  | p :: l, k => if p.1 = k then some p.2 else look l k

theorem look_none {k : Int} : ∀ {l : List (Int × Int)}, look l k = none ↔ ∀ p ∈ l, p.1 ≠ k
  | [] => by simp [look]
  | p :: l => by
    have := look_none (k := k) (l := l)
    by_cases h : p.1 = k
    · simp [look, h]
    · simp [look, h, this]
theorem look_append (k : Int) (v : Int) (k' : Int) : ∀ (l : List (Int × Int)), look l k = none → look (l ++ [(k, v)]) k' = if k' = k then some v else look l k'
  | [], _ => by
    by_cases h : k' = k
    · simp [look, h]
    · have h' : ¬ k = k' := fun e => h e.symm
      simp [look, h, h']
  | p :: l, h => by
    have hp : p.1 ≠ k := look_none.1 h p (by simp)
    have hl : look l k = none := look_none.2 fun q hq => look_none.1 h q (by simp [hq])
    have := look_append k v k' l hl
    by_cases e : p.1 = k'
    · have : k' ≠ k := fun x => hp (e.trans x)
      simp [look, e, this]
    · simp [look, e, this]
theorem look_set (k v v0 k' : Int) : ∀ (l : List (Int × Int)) (j : Nat), (l.map (·.1)).Nodup → l[j]? = some (k, v0) → look (l.set j (k, v)) k' = if k' = k then some v else look l k'
  | [], j, _, h => by simp at h
  | p :: l, 0, _, h => by
    obtain rfl : p = (k, v0) := by simpa using h
    by_cases e : k' = k
    · simp [look, e]
    · have e' : ¬ k = k' := fun x => e x.symm
      simp [look, e, e']
  | p :: l, j + 1, hn, h => by
    have h' : l[j]? = some (k, v0) := by simpa using h
    have hn' : (l.map (·.1)).Nodup := (List.nodup_cons.1 (by simpa using hn)).2
    have hp : p.1 ≠ k := fun e => (List.nodup_cons.1 (show (p.1 :: l.map (·.1)).Nodup by simpa using hn)).1 (e ▸ List.mem_map.2 ⟨_, List.mem_of_getElem? h', rfl⟩)
    have := look_set k v v0 k' l j hn' h'
    by_cases e : p.1 = k'
    · have : k' ≠ k := fun x => hp (e.trans x)
      simp [look, e, this]
    · simp [look, e, this]
theorem look_erase (k v0 k' : Int) : ∀ (l : List (Int × Int)) (j : Nat), (l.map (·.1)).Nodup → l[j]? = some (k, v0) → look (l.eraseIdx j) k' = if k' = k then none else look l k'
  | [], j, _, h => by simp at h
  | p :: l, 0, hn, h => by
    obtain rfl : p = (k, v0) := by simpa using h
    have hk := (List.nodup_cons.1 (show (k :: l.map (·.1)).Nodup by simpa using hn)).1
    by_cases e : k' = k
    · subst e
      simp only [List.eraseIdx_cons_zero, if_true]
      exact look_none.2 fun q hq e => hk (List.mem_map.2 ⟨q, hq, e⟩)
    · have e' : ¬ k = k' := fun x => e x.symm
      simp [look, e, e']
  | p :: l, j + 1, hn, h => by
    have h' : l[j]? = some (k, v0) := by simpa using h
    have hn' : (l.map (·.1)).Nodup := (List.nodup_cons.1 (by simpa using hn)).2
    have hp : p.1 ≠ k := fun e => (List.nodup_cons.1 (show (p.1 :: l.map (·.1)).Nodup by simpa using hn)).1 (e ▸ List.mem_map.2 ⟨_, List.mem_of_getElem? h', rfl⟩)
    have := look_erase k v0 k' l j hn' h'
    by_cases e : p.1 = k'
    · have : k' ≠ k := fun x => hp (e.trans x)
      simp [look, e, this]
    · simp [look, e, this]

def pairV (p : Int × Int) : Value × Value := (.int .i64 p.1, .int .u32 p.2)

theorem find_spec (k : Int) : ∀ (es : List MapEntry) (l : List (Int × Int)) (i : Nat), es.map (fun e => (e.key, e.val)) = l.map pairV →
    (Instr.findNow (.int .i64) (.int .i64 k) es i = some none ∧ look l k = none) ∨ ∃ (j : Nat) (v : Int), Instr.findNow (.int .i64) (.int .i64 k) es i = some (some (i + j, .int .u32 v)) ∧ l[j]? = some (k, v) ∧ look l k = some v
  | [], l, i, h => by
    cases l with
    | nil => exact .inl ⟨rfl, rfl⟩
    | cons p l => simp at h
  | e :: es, l, i, h => by
    cases l with
    | nil => simp at h
    | cons p l =>
      simp only [List.map_cons, List.cons.injEq, pairV, Prod.mk.injEq] at h
      obtain ⟨⟨h1, h2⟩, h3⟩ := h
      by_cases c : p.1 = k
      · refine .inr ⟨0, p.2, ?_, by simp [← c], by simp [look, c]⟩
        simp [Instr.findNow, h1, h2, Instr.sameNow, c]
      · have c' : (k == p.1) = false := by
          rw [beq_eq_false_iff_ne]
          exact fun x => c x.symm
        rcases find_spec k es l (i + 1) h3 with ⟨a, b⟩ | ⟨j, v, a, b, d⟩
        · exact .inl ⟨by simp [Instr.findNow, h1, Instr.sameNow, c', a], by simp [look, c, b]⟩
        · refine .inr ⟨j + 1, v, ?_, by simpa using b, by simp [look, c, d]⟩
          simp [Instr.findNow, h1, Instr.sameNow, c', a]
          omega

/-- All but one block stay as they were; none is new. -/
structure Turned (b : Nat) (w w' : World) : Prop where
  os : w'.os = w.os
  tape : w'.tape = w.tape
  output : w'.output = w.output
  size : w'.heap.size = w.heap.size
  block : ∀ k, k ≠ b → w'.heap[k]? = w.heap[k]?
theorem heap_turn {w : World} {b : Nat} {o' : Obj} : Turned b w { w with heap := w.heap.setIfInBounds b o' } := by
  refine ⟨rfl, rfl, rfl, by simp, fun i hne => ?_⟩
  simp [Array.getElem?_setIfInBounds_ne (fun e => hne e.symm)]
theorem heap_now {w : World} {b : Nat} {o o' : Obj} (hb : w.heap[b]? = some o) : ({ w with heap := w.heap.setIfInBounds b o' } : World).heap[b]? = some o' := by
  have hlt : b < w.heap.size := (Array.getElem?_eq_some_iff.1 hb).1
  simp [hlt]

/-- The map in block b tells P. -/
def IsMap (w : World) (b : Nat) (P : Int → Option Int) : Prop :=
  ∃ (es : Array MapEntry) (clock : Nat) (l : List (Int × Int)), w.heap[b]? = some (.map es clock) ∧ es.toList.map (fun e => (e.key, e.val)) = l.map pairV ∧ (l.map (·.1)).Nodup ∧ ∀ k, look l k = P k
theorem IsMap.lt {w : World} {b : Nat} {P : Int → Option Int} (h : IsMap w b P) : b < w.heap.size := by
  obtain ⟨es, clock, l, h, _⟩ := h
  exact (Array.getElem?_eq_some_iff.1 h).1
theorem IsMap.same {w u : World} {b : Nat} {P : Int → Option Int} (h : IsMap w b P) (e : u.heap[b]? = w.heap[b]?) : IsMap u b P := by
  obtain ⟨es, clock, l, h, k⟩ := h
  exact ⟨es, clock, l, e.trans h, k⟩
theorem IsMap.congr {w : World} {b : Nat} {P P' : Int → Option Int} (h : IsMap w b P) (e : ∀ k, P k = P' k) : IsMap w b P' := by
  obtain ⟨es, clock, l, h, k1, k2, k3⟩ := h
  exact ⟨es, clock, l, h, k1, k2, fun k => (k3 k).trans (e k)⟩
theorem IsMap.fresh (w : World) : IsMap (w.alloc (.map #[] 0)) w.heap.size (fun _ => none) := ⟨#[], 0, [], (MapKept.heap_alloc w _).1, rfl, by simp, fun _ => rfl⟩

/-- A function with one value turned. -/
def at1 {α : Type} (P : Int → α) (k : Int) (v : α) : Int → α := fun i => if i = k then v else P i

theorem isKey (k : Int) : MapKept.IsKey (.int .i64) (.int .i64 k) := by simp [MapKept.IsKey]
theorem zero3 (w : World) : (zeroValue 30).run Try.prog w = .ok (.int .u32 0) w := by kernel_rfl

theorem map_look {w : World} {b : Nat} {P : Int → Option Int} (h : IsMap w b P) (k : Int) :
    (Instr.lookup 83 (.map (some b)) (.int .i64 k) true).run Try.prog w = .ok (.tuple #[.int .u32 ((P k).getD 0), .bool (P k).isSome]) w := by
  obtain ⟨es, clock, l, hb, h1, h2, h3⟩ := h
  have hc := MapKept.run_checkKey (w := w) Try.underlying3 (isKey k) es.isEmpty 9999
  rcases find_spec k es.toList l 0 h1 with ⟨hf, hn⟩ | ⟨j, v, hf, hj, hl⟩
  · have hf' := MapKept.run_findKey (w := w) Try.underlying3 hf
    rw [h3 k] at hn
    simp only [Instr.lookup, Sem.run_bind, run_underlying Try.underlying83, Result.andThen_ok, MapKept.run_getObj_map hb, Sem.run_pure, hc, hf', zero3, hn]
    rfl
  · have hf' := MapKept.run_findKey (w := w) Try.underlying3 hf
    rw [h3 k] at hl
    simp only [Instr.lookup, Sem.run_bind, run_underlying Try.underlying83, Result.andThen_ok, MapKept.run_getObj_map hb, Sem.run_pure, hc, hf', hl]
    rfl
theorem map_at {w : World} {b : Nat} {P : Int → Option Int} (h : IsMap w b P) (k : Int) :
    (Instr.lookup 83 (.map (some b)) (.int .i64 k) false).run Try.prog w = .ok (.int .u32 ((P k).getD 0)) w := by
  obtain ⟨es, clock, l, hb, h1, h2, h3⟩ := h
  have hc := MapKept.run_checkKey (w := w) Try.underlying3 (isKey k) es.isEmpty 9999
  rcases find_spec k es.toList l 0 h1 with ⟨hf, hn⟩ | ⟨j, v, hf, hj, hl⟩
  · have hf' := MapKept.run_findKey (w := w) Try.underlying3 hf
    rw [h3 k] at hn
    simp only [Instr.lookup, Sem.run_bind, run_underlying Try.underlying83, Result.andThen_ok, MapKept.run_getObj_map hb, Sem.run_pure, hc, hf', zero3, hn]
    rfl
  · have hf' := MapKept.run_findKey (w := w) Try.underlying3 hf
    rw [h3 k] at hl
    simp only [Instr.lookup, Sem.run_bind, run_underlying Try.underlying83, Result.andThen_ok, MapKept.run_getObj_map hb, Sem.run_pure, hc, hf', hl]
    rfl
theorem map_put {w : World} {b : Nat} {P : Int → Option Int} (h : IsMap w b P) (k v : Int) :
    ∃ w', (Instr.mapUpdate 83 (.map (some b)) (.int .i64 k) (.int .u32 v)).run Try.prog w = .ok () w' ∧ IsMap w' b (at1 P k (some v)) ∧ Turned b w w' := by
  obtain ⟨es, clock, l, hb, h1, h2, h3⟩ := h
  have hc := MapKept.run_checkKey (w := w) Try.underlying3 (isKey k) false 9999
  rcases find_spec k es.toList l 0 h1 with ⟨hf, hn⟩ | ⟨j, u, hf, hj, hl⟩
  · have hf' := MapKept.run_findKey (w := w) Try.underlying3 hf
    refine ⟨{ w with heap := w.heap.setIfInBounds b (.map (es.push { key := .int .i64 k, val := .int .u32 v, born := clock }) (clock + 1)) }, ?_, ⟨_, _, l ++ [(k, v)], heap_now hb, ?_, ?_, ?_⟩, heap_turn⟩
    · simp only [Instr.mapUpdate, Sem.run_bind, run_underlying Try.underlying83, Result.andThen_ok, MapKept.run_getObj_map hb, hc, hf']
      exact MapKept.run_setObj_map _ hb
    · simp [h1, pairV]
    · rw [List.map_append, List.nodup_append]
      refine ⟨h2, by simp, fun a ha c hc' => ?_⟩
      simp at hc'
      subst hc'
      obtain ⟨p, hp, rfl⟩ := List.mem_map.1 ha
      exact look_none.1 hn p hp
    · intro k'
      rw [look_append k v k' l hn, h3 k']
      rfl
  · have hf' := MapKept.run_findKey (w := w) Try.underlying3 hf
    rw [Nat.zero_add] at hf'
    have hjk : (es[j]?).map (fun e => (e.key, e.val)) = some (pairV (k, u)) := by
      have h4 := congrArg (·[j]?) h1
      simp only [List.getElem?_map, hj, Option.map_some] at h4
      simpa using h4
    obtain ⟨e, he, hek⟩ := Option.map_eq_some_iff.1 hjk
    simp only [pairV, Prod.mk.injEq] at hek
    have hks := MapKept.run_keyThatStays (P := Try.prog) (w := w) (isKey k)
    refine ⟨{ w with heap := w.heap.setIfInBounds b (.map (es.modify j fun e => { e with key := .int .i64 k, val := .int .u32 v }) clock) }, ?_, ⟨_, _, l.set j (k, v), heap_now hb, ?_, ?_, ?_⟩, heap_turn⟩
    · simp only [Instr.mapUpdate, Sem.run_bind, run_underlying Try.underlying83, Result.andThen_ok, MapKept.run_getObj_map hb, hc, hf', he, Option.map_some, Option.getD_some, hek.1, hks]
      exact MapKept.run_setObj_map _ hb
    · rw [Array.toList_modify]
      apply List.ext_getElem?
      intro i
      have h4 := congrArg (·[i]?) h1
      simp only [List.getElem?_map] at h4
      simp only [List.getElem?_map, List.getElem?_modify, List.getElem?_set]
      by_cases e2 : j = i
      · subst e2
        have hlt : j < l.length := (List.getElem?_eq_some_iff.1 hj).1
        have he2 : es.toList[j]? = some e := by simpa using he
        simp [hlt, he2, pairV]
      · simp only [e2, if_false]
        rw [← h4]
        simp
    · have : (l.set j (k, v)).map (·.1) = l.map (·.1) := by
        apply List.ext_getElem?
        intro i
        simp only [List.getElem?_map, List.getElem?_set]
        by_cases e2 : j = i
        · subst e2
          have hlt : j < l.length := (List.getElem?_eq_some_iff.1 hj).1
          have hj' : l[j] = (k, u) := Option.some.inj ((List.getElem?_eq_getElem hlt).symm.trans hj)
          simp [hlt, hj']
        · simp [e2]
      rw [this]
      exact h2
    · intro k'
      rw [look_set k v u k' l j h2 hj, h3 k']
      rfl

theorem map_eraseIdx' {α β : Type} (f : α → β) : ∀ (l : List α) (j : Nat), (l.eraseIdx j).map f = (l.map f).eraseIdx j
  | [], j => by simp
  | x :: l, 0 => by simp
  | x :: l, j + 1 => by simp [map_eraseIdx' f l j]
theorem map_del {w : World} {b : Nat} {P : Int → Option Int} (h : IsMap w b P) (k : Int) :
    ∃ w', (∀ ty : TypeId, (Builtin.delete_ #[83, 3] ty #[.map (some b), .int .i64 k]).run Try.prog w = .ok (.tuple #[]) w') ∧ IsMap w' b (at1 P k none) ∧ Turned b w w' := by
  obtain ⟨es, clock, l, hb, h1, h2, h3⟩ := h
  have hc := MapKept.run_checkKey (w := w) Try.underlying3 (isKey k) es.isEmpty 9999
  rcases find_spec k es.toList l 0 h1 with ⟨hf, hn⟩ | ⟨j, u, hf, hj, hl⟩
  · have hf' := MapKept.run_findKey (w := w) Try.underlying3 hf
    refine ⟨{ w with heap := w.heap.setIfInBounds b (.map es clock) }, ?_, ⟨_, _, l, heap_now hb, h1, h2, ?_⟩, heap_turn⟩
    · intro ty
      simp only [Builtin.delete_, List.getElem?_toArray, List.getElem?_cons_zero, List.getElem?_cons_succ, Sem.run_bind, run_underlying Try.underlying83, Result.andThen_ok, MapKept.run_getObj_map hb, hc, hf', MapKept.run_setObj_map _ hb]
      rfl
    · intro k'
      by_cases e : k' = k
      · subst e
        simp [at1, hn]
      · simp [at1, e, h3]
  · have hf' := MapKept.run_findKey (w := w) Try.underlying3 hf
    rw [Nat.zero_add] at hf'
    have hjl : j < es.size := by
      have h4 := congrArg List.length h1
      simp only [List.length_map] at h4
      rw [← Array.length_toList, h4]
      exact (List.getElem?_eq_some_iff.1 hj).1
    have her : (es.eraseIdxIfInBounds j).toList = es.toList.eraseIdx j := by
      simp [Array.eraseIdxIfInBounds, hjl]
    refine ⟨{ w with heap := w.heap.setIfInBounds b (.map (es.eraseIdxIfInBounds j) clock) }, ?_, ⟨_, _, l.eraseIdx j, heap_now hb, ?_, ?_, ?_⟩, heap_turn⟩
    · intro ty
      simp only [Builtin.delete_, List.getElem?_toArray, List.getElem?_cons_zero, List.getElem?_cons_succ, Sem.run_bind, run_underlying Try.underlying83, Result.andThen_ok, MapKept.run_getObj_map hb, hc, hf', MapKept.run_setObj_map _ hb]
      rfl
    · rw [her, map_eraseIdx', map_eraseIdx', h1]
    · rw [map_eraseIdx']
      exact h2.sublist (List.eraseIdx_sublist _ _)
    · intro k'
      rw [look_erase k u k' l j h2 hj, h3 k']
      rfl
end Go.Proofs.Ytdmfbfbebcneeaa
