/-
  Maps whose keys are tables: laid, found, gone through in whatever order, taken out.
-/
import Derived.Test.YtmfocngdobcfcabDoorReg
import Derived.Test.YtmfocngdobcfcabDoorEq
import Derived.Laws.IdiomRangeMap
namespace Go.Proofs.YtmfocngdobcfcabDoor
open Go Go.RowKit

/-- A table as one number. -/
def code (F : Nat → Bool) : Nat := mk F 256
def tabN (n : Nat) : Value := tab n.testBit
def top : Nat := 2 ^ 256
theorem code_lt (F : Nat → Bool) : code F < top := mk_lt F 256
theorem code_bit (F : Nat → Bool) (x : Nat) (hx : x < 256) : (code F).testBit x = F x := by rw [code, mk_bit]; simp [hx]
theorem tab_code (F : Nat → Bool) : tab F = tabN (code F) := tab_ext fun x hx => (code_bit F x hx).symm
theorem code_eq {F G : Nat → Bool} : code F = code G ↔ ∀ x, x < 256 → F x = G x := ⟨fun h => mk_inj h, fun h => mk_congr h⟩
theorem code_of {n : Nat} (h : n < top) : code n.testBit = n := mk_of n 256 h
theorem same_code (F G : Nat → Bool) : same F G = decide (code F = code G) := by
  rw [Bool.eq_iff_iff, same_iff, decide_eq_true_iff, code_eq]
theorem tabN_inj {m n : Nat} (hm : m < top) (hn : n < top) (h : tabN m = tabN n) : m = n := by
  rw [← code_of hm, ← code_of hn, code_eq]
  unfold tabN tab at h
  simp only [Value.agg.injEq, Array.mk.injEq, List.cons.injEq, Value.int.injEq, true_and, and_true, Int.natCast_inj] at h
  exact tab_inj h.1 h.2.1 h.2.2.1 h.2.2.2

theorem check_tab (F : Nat → Bool) (e : Bool) (w : World) : (Instr.checkKey e 10000 24 (tab F)).run Tryd.prog w = .ok () w := by
  have hi : ∀ (a : Int) (w : World), (Instr.checkKey e 9999 22 (.int .u64 a)).run Tryd.prog w = .ok () w := by
    intro a w
    exact MapKept.run_checkKey (d := .int .u64) Tryd.underlying22 (by simp [MapKept.IsKey]) e 9998
  rw [show (10000 : Nat) = 9999 + 1 from rfl]
  generalize 9999 = d at hi
  have h1 := size22
  unfold tab
  simp only [Instr.checkKey, Sem.run_bind, run_underlying Tryd.underlying24, Result.andThen_ok]
  have hr : (List.range' 0 4 1) = [0, 1, 2, 3] := rfl
  rw [Std.Legacy.Range.forIn_eq_forIn_range', show Std.Legacy.Range.size [:4] = 4 from rfl, hr]
  have p0 := fun w => part22 #[.int .u64 (word F 0 : Int), .int .u64 (word F 1 : Int), .int .u64 (word F 2 : Int), .int .u64 (word F 3 : Int)] 0 _ rfl w
  have p1 := fun w => part22 #[.int .u64 (word F 0 : Int), .int .u64 (word F 1 : Int), .int .u64 (word F 2 : Int), .int .u64 (word F 3 : Int)] 1 _ rfl w
  have p2 := fun w => part22 #[.int .u64 (word F 0 : Int), .int .u64 (word F 1 : Int), .int .u64 (word F 2 : Int), .int .u64 (word F 3 : Int)] 2 _ rfl w
  have p3 := fun w => part22 #[.int .u64 (word F 0 : Int), .int .u64 (word F 1 : Int), .int .u64 (word F 2 : Int), .int .u64 (word F 3 : Int)] 3 _ rfl w
  simp only [List.forIn_cons, List.forIn_nil, Sem.run_bind, h1, Nat.mul_one, p0, p1, p2, p3, hi, Result.andThen_ok, Sem.run_pure]

theorem equal_N (m n : Nat) (hm : m < top) (hn : n < top) (w : World) : (Op.equal 24 (tabN m) (tabN n)).run Tryd.prog w = .ok (decide (m = n)) w := by
  have := equal_tab m.testBit n.testBit w
  rw [same_code, code_of hm, code_of hn] at this
  exact this

/-- A key is sought among others. -/
theorem ask_spec (t : Nat) (ht : t < top) (w : World) : ∀ (es : List MapEntry) (ts : List Nat) (i : Nat), es.map (·.key) = ts.map tabN → (∀ u ∈ ts, u < top) →
    ((Instr.findAsking 24 (tabN t) es i).run Tryd.prog w = .ok none w ∧ t ∉ ts) ∨ ∃ j v, (Instr.findAsking 24 (tabN t) es i).run Tryd.prog w = .ok (some (i + j, v)) w ∧ ts[j]? = some t
  | [], ts, i, h, _ => by
    cases ts with
    | nil => exact Or.inl ⟨rfl, by simp⟩
    | cons u ts => simp at h
  | e :: es, ts, i, h, hl => by
    cases ts with
    | nil => simp at h
    | cons u ts =>
      simp only [List.map_cons, List.cons.injEq] at h
      have heq := equal_N t u ht (hl u List.mem_cons_self) w
      rw [← h.1] at heq
      by_cases c : t = u
      · right
        refine ⟨0, e.val, ?_, by simp [c]⟩
        have hd : decide (t = u) = true := by simpa using c
        rw [hd] at heq
        simp only [Instr.findAsking, Sem.run_bind, heq, Result.andThen_ok, if_true, Nat.add_zero]
        rfl
      · have hd : decide (t = u) = false := by simpa using c
        rw [hd] at heq
        rcases ask_spec t ht w es ts (i + 1) h.2 (fun x hx => hl x (List.mem_cons_of_mem _ hx)) with ⟨h1, h2⟩ | ⟨j, v, h1, h2⟩
        · left
          refine ⟨?_, by simp only [List.mem_cons, not_or]; exact ⟨c, h2⟩⟩
          simp only [Instr.findAsking, Sem.run_bind, heq, Result.andThen_ok, Bool.false_eq_true, if_false]
          exact h1
        · right
          refine ⟨j + 1, v, ?_, by simpa using h2⟩
          simp only [Instr.findAsking, Sem.run_bind, heq, Result.andThen_ok, Bool.false_eq_true, if_false]
          rw [h1]
          congr 3
          omega
theorem find_spec (t : Nat) (ht : t < top) (w : World) (es : List MapEntry) (ts : List Nat) (h : es.map (·.key) = ts.map tabN) (hl : ∀ u ∈ ts, u < top) :
    ((Instr.findKey 24 (tabN t) es).run Tryd.prog w = .ok none w ∧ t ∉ ts) ∨ ∃ j v, (Instr.findKey 24 (tabN t) es).run Tryd.prog w = .ok (some (j, v)) w ∧ ts[j]? = some t := by
  cases es with
  | nil =>
    have : ts = [] := by cases ts with | nil => rfl | cons => simp at h
    subst this
    left
    refine ⟨?_, by simp⟩
    simp only [Instr.findKey, Sem.run_bind, run_underlying Tryd.underlying24, Result.andThen_ok, Instr.findNow]
    rfl
  | cons e es =>
    have hk : ∃ u, e.key = tabN u := by
      cases ts with
      | nil => simp at h
      | cons u ts => simp only [List.map_cons, List.cons.injEq] at h; exact ⟨u, h.1⟩
    obtain ⟨u, hu⟩ := hk
    have := ask_spec t ht w (e :: es) ts 0 h hl
    simp only [Nat.zero_add] at this
    have hr : (Instr.findKey 24 (tabN t) (e :: es)).run Tryd.prog w = (Instr.findAsking 24 (tabN t) (e :: es)).run Tryd.prog w := by
      simp only [Instr.findKey, Sem.run_bind, run_underlying Tryd.underlying24, Result.andThen_ok, Instr.findNow, hu]
      rfl
    rw [hr]
    exact this

/-- The map in block b holds these tables. -/
structure MapIs (es : Array MapEntry) (clock : Nat) (ts : List Nat) : Prop where
  keys : es.toList.map (·.key) = ts.map tabN
  old : ∀ x ∈ es.toList, x.born < clock
  once : (es.toList.map (·.born)).Nodup
  nodup : ts.Nodup
  small : ∀ t ∈ ts, t < top
def IsMap (w : World) (b : Nat) (ts : List Nat) : Prop := ∃ es clock, w.heap[b]? = some (.map es clock) ∧ MapIs es clock ts
theorem IsMap.lt {w : World} {b : Nat} {ts : List Nat} (h : IsMap w b ts) : b < w.heap.size := by
  obtain ⟨es, clock, h, _⟩ := h
  exact (Array.getElem?_eq_some_iff.1 h).1
theorem IsMap.same {w u : World} {b : Nat} {ts : List Nat} (h : IsMap w b ts) (e : u.heap[b]? = w.heap[b]?) : IsMap u b ts := by
  obtain ⟨es, clock, h, k⟩ := h
  exact ⟨es, clock, e.trans h, k⟩
theorem IsMap.kept {w u : World} {b : Nat} {ts : List Nat} (h : IsMap w b ts) (k : Below w.heap.size w u) : IsMap u b ts := h.same (k.block b h.lt)
theorem IsMap.fresh (w : World) : IsMap (w.alloc (.map #[] 0)) w.heap.size [] := ⟨#[], 0, heap_alloc_new w _, ⟨rfl, by simp, by simp, by simp, by simp⟩⟩

/-- A table more. -/
def ins (ts : List Nat) (t : Nat) : List Nat := if t ∈ ts then ts else ts ++ [t]
theorem heap_turn {w : World} {b : Nat} {o' : Obj} : Turned b w { w with heap := w.heap.setIfInBounds b o' } := by
  refine ⟨rfl, rfl, rfl, by simp, fun i _ hne => ?_⟩
  simp [Array.getElem?_setIfInBounds_ne (fun e => hne e.symm)]
theorem heap_now {w : World} {b : Nat} {o o' : Obj} (hb : w.heap[b]? = some o) : ({ w with heap := w.heap.setIfInBounds b o' } : World).heap[b]? = some o' := by
  have hlt : b < w.heap.size := (Array.getElem?_eq_some_iff.1 hb).1
  simp [hlt]

theorem map_put {w : World} {b : Nat} {ts : List Nat} (h : IsMap w b ts) (t : Nat) (ht : t < top) (v : Value) :
    ∃ w', (Instr.mapUpdate 49 (.map (some b)) (tabN t) v).run Tryd.prog w = .ok () w' ∧ IsMap w' b (ins ts t) ∧ Turned b w w' := by
  obtain ⟨es, clock, hb, k⟩ := h
  have hc : (Instr.checkKey false 10000 24 (tabN t)).run Tryd.prog w = .ok () w := check_tab _ false w
  rcases find_spec t ht w es.toList ts k.keys k.small with ⟨hf, hn⟩ | ⟨j, u, hf, hj⟩
  · refine ⟨{ w with heap := w.heap.setIfInBounds b (.map (es.push { key := tabN t, val := v, born := clock }) (clock + 1)) }, ?_, ⟨_, _, heap_now hb, ?_⟩, heap_turn⟩
    · simp only [Instr.mapUpdate, Sem.run_bind, run_underlying Tryd.underlying49, Result.andThen_ok, MapKept.run_getObj_map hb, hc, hf]
      exact MapKept.run_setObj_map _ hb
    · rw [ins, if_neg hn]
      refine ⟨by simp [k.keys], fun x hx => ?_, ?_, ?_, ?_⟩
      · simp at hx
        rcases hx with hx | rfl
        · have := k.old x (by simpa using hx); omega
        · simp
      · rw [Array.toList_push, List.map_append, List.nodup_append]
        refine ⟨k.once, by simp, fun a ha c hc' => ?_⟩
        simp at hc'
        subst hc'
        obtain ⟨x, hx, rfl⟩ := List.mem_map.1 ha
        have := k.old x hx
        omega
      · rw [List.nodup_append]
        refine ⟨k.nodup, by simp, fun a ha c hc' => ?_⟩
        simp at hc'
        subst hc'
        exact fun e => hn (e ▸ ha)
      · intro u hu
        rcases List.mem_append.1 hu with hu | hu
        · exact k.small u hu
        · simp at hu; subst hu; exact ht
  · have hjl : j < es.toList.length := by
      have h1 := congrArg List.length k.keys
      simp only [List.length_map] at h1
      rw [h1]
      exact (List.getElem?_eq_some_iff.1 hj).1
    have hjk : (es[j]?).map (·.key) = some (tabN t) := by
      have h1 := congrArg (·[j]?) k.keys
      simp only [List.getElem?_map, hj, Option.map_some] at h1
      simpa using h1
    obtain ⟨e, he, hek⟩ := Option.map_eq_some_iff.1 hjk
    have hsb : Instr.sameBits 10000 (tabN t) (tabN t) = true := by
      unfold tabN tab
      simp [Instr.sameBits]
    have hks : (Instr.keyThatStays (tabN t) (tabN t)).run Tryd.prog w = .ok (tabN t) w := by
      simp only [Instr.keyThatStays, hsb, if_true]
      rfl
    refine ⟨{ w with heap := w.heap.setIfInBounds b (.map (es.modify j fun e => { e with key := tabN t, val := v }) clock) }, ?_, ⟨_, _, heap_now hb, ?_⟩, heap_turn⟩
    · simp only [Instr.mapUpdate, Sem.run_bind, run_underlying Tryd.underlying49, Result.andThen_ok, MapKept.run_getObj_map hb, hc, hf, he, Option.map_some, Option.getD_some, hek, hks]
      exact MapKept.run_setObj_map _ hb
    · rw [ins, if_pos (List.mem_of_getElem? hj)]
      have hb2 : (es.modify j fun e => { e with key := tabN t, val := v }).toList.map (·.born) = es.toList.map (·.born) := by
        rw [Array.toList_modify]
        apply List.ext_getElem?
        intro i
        simp only [List.getElem?_map, List.getElem?_modify]
        by_cases e2 : j = i
        · subst e2; simp only [if_true]; cases es.toList[j]? <;> rfl
        · simp [e2]
      refine ⟨?_, fun x hx => ?_, by rw [hb2]; exact k.once, k.nodup, k.small⟩
      · rw [MapKept.modify_keys j _ fun e3 h3 => ?_]
        · exact k.keys
        · rw [he] at h3
          obtain rfl := Option.some.inj h3
          exact hek.symm
      · have hx2 : x.born ∈ (es.modify j fun e => { e with key := tabN t, val := v }).toList.map (·.born) := List.mem_map.2 ⟨x, hx, rfl⟩
        rw [hb2] at hx2
        obtain ⟨y, hy, hyx⟩ := List.mem_map.1 hx2
        rw [← hyx]
        exact k.old y hy

/-- A map's walker: which of its tables it has handed out. -/
structure Iter (w : World) (it b : Nat) (ts vs : List Nat) : Prop where
  ex : ∃ es clock seen, w.heap[b]? = some (.map es clock) ∧ MapIs es clock ts ∧ w.heap[it]? = some (.mapIter (some b) clock seen clock) ∧ ∃ vis : List MapEntry, vis.map (·.key) = vs.map tabN ∧ seen.toList = vis.map (·.born) ∧ (∀ x ∈ vis, x ∈ es.toList) ∧ (vis.map (·.born)).Nodup
theorem Iter.start {w : World} {b : Nat} {ts : List Nat} (h : IsMap w b ts) : ∃ w', (Instr.range 49 (.map (some b))).run Tryd.prog w = .ok (.pointer (some ⟨w.heap.size, 0, none⟩)) w' ∧ Iter w' w.heap.size b ts [] ∧ Below w.heap.size w w' ∧ w'.heap.size = w.heap.size + 1 := by
  have hlt := h.lt
  obtain ⟨es, clock, hb, k⟩ := h
  refine ⟨_, run_range_map w 49 24 50 b es clock Tryd.underlying49 hb, ⟨es, clock, #[], ?_, k, heap_alloc_new w _, [], rfl, rfl, by simp, by simp⟩, (Below.refl _ w).alloc (Nat.le_refl _) _, by simp⟩
  rw [heap_alloc_old w _ hlt]
  exact hb
theorem Iter.same {w u : World} {it b : Nat} {ts vs : List Nat} (h : Iter w it b ts vs) (e1 : u.heap[b]? = w.heap[b]?) (e2 : u.heap[it]? = w.heap[it]?) : Iter u it b ts vs := by
  obtain ⟨es, clock, seen, h1, h2, h3, h4⟩ := h.ex
  exact ⟨es, clock, seen, e1.trans h1, h2, e2.trans h3, h4⟩
theorem Iter.lt {w : World} {it b : Nat} {ts vs : List Nat} (h : Iter w it b ts vs) : it < w.heap.size ∧ b < w.heap.size ∧ it ≠ b := by
  obtain ⟨es, clock, seen, h1, h2, h3, h4⟩ := h.ex
  refine ⟨(Array.getElem?_eq_some_iff.1 h3).1, (Array.getElem?_eq_some_iff.1 h1).1, fun e => ?_⟩
  rw [e, h1] at h3
  cases h3
theorem Iter.kept {w u : World} {it b : Nat} {ts vs : List Nat} (h : Iter w it b ts vs) (k : Below w.heap.size w u) : Iter u it b ts vs := h.same (k.block b h.lt.2.1) (k.block it h.lt.1)
theorem Iter.map {w : World} {it b : Nat} {ts vs : List Nat} (h : Iter w it b ts vs) : IsMap w b ts := by
  obtain ⟨es, clock, seen, h1, h2, h3, h4⟩ := h.ex
  exact ⟨es, clock, h1, h2⟩

theorem key_at {es : List MapEntry} {ts : List Nat} (h : es.map (·.key) = ts.map tabN) {e : MapEntry} (he : e ∈ es) : ∃ t ∈ ts, e.key = tabN t := by
  have : e.key ∈ es.map (·.key) := List.mem_map.2 ⟨e, he, rfl⟩
  rw [h] at this
  obtain ⟨t, ht, hk⟩ := List.mem_map.1 this
  exact ⟨t, ht, hk.symm⟩
theorem keys_inj {es : List MapEntry} {ts : List Nat} (h : es.map (·.key) = ts.map tabN) (hn : ts.Nodup) (hs : ∀ t ∈ ts, t < top) {x y : MapEntry} (hx : x ∈ es) (hy : y ∈ es) (e : x.key = y.key) : x = y := by
  obtain ⟨i, hi⟩ := List.mem_iff_getElem?.1 hx
  obtain ⟨j, hj⟩ := List.mem_iff_getElem?.1 hy
  have h1 := congrArg (·[i]?) h
  have h2 := congrArg (·[j]?) h
  simp only [List.getElem?_map, hi, hj, Option.map_some] at h1 h2
  obtain ⟨s, hs1, hs2⟩ := Option.map_eq_some_iff.1 h1.symm
  obtain ⟨t, ht1, ht2⟩ := Option.map_eq_some_iff.1 h2.symm
  have hst : s = t := tabN_inj (hs s (List.mem_of_getElem? hs1)) (hs t (List.mem_of_getElem? ht1)) (by rw [hs2, ht2, e])
  subst hst
  have hij : i = j := by
    exact (List.getElem?_inj (List.getElem?_eq_some_iff.1 hs1).1 hn).1 (hs1.trans ht1.symm)
  subst hij
  exact Option.some.inj (hi.symm.trans hj)

theorem map_keyList {es : List MapEntry} {ts : List Nat} (h : es.map (·.key) = ts.map tabN) : es.length = ts.length := by
  have := congrArg List.length h
  simpa using this
/-- The walker's next step: none is left, and all have been handed out; or one more, whichever. -/
theorem Iter.next {w : World} {it b : Nat} {ts vs : List Nat} (h : Iter w it b ts vs) (hvs : ∀ v ∈ vs, v < top) (ty : TypeId) :
    ((∀ t ∈ ts, t ∈ vs) ∧ (Instr.next (.pointer (some ⟨it, 0, none⟩)) false ty).run Tryd.prog w = .ok (.tuple #[.bool false]) w) ∨
    ∃ t v w', t ∈ ts ∧ t ∉ vs ∧ (Instr.next (.pointer (some ⟨it, 0, none⟩)) false ty).run Tryd.prog w = .ok (.tuple #[.bool true, tabN t, v]) w' ∧ Iter w' it b ts (vs ++ [t]) ∧ Turned it w w' ∧ (Instr.entry (.pointer (some ⟨it, 0, none⟩))).run Tryd.prog w' = .ok (.tuple #[tabN t, v]) w' := by
  have hne := h.lt.2.2
  obtain ⟨es, clock, seen, hb, k, hi, vis, hv1, hv2, hv3, hv4⟩ := h.ex
  have hold := k.old
  have hcont : ∀ x : MapEntry, x ∈ es.toList → (seen.contains x.born = true ↔ x ∈ vis) := by
    intro x hx
    rw [Array.contains_iff_mem, ← Array.mem_toList_iff, hv2, List.mem_map]
    constructor
    · rintro ⟨y, hy, e⟩
      rw [← born_inj k.once (hv3 y hy) hx e]
      exact hy
    · intro hxv
      exact ⟨x, hxv, rfl⟩
  simp only [Instr.next, getObj, Sem.run_bind, Sem.run, hi, hb, Result.andThen, next_test_false seen es clock clock hold (Nat.le_refl _), Bool.false_eq_true, if_false]
  have hL : ∀ x, x ∈ (Array.filter (fun e => !seen.contains e.born) es).toList ↔ x ∈ es.toList ∧ x ∉ vis := by
    intro x
    rw [Array.mem_toList_iff, Array.mem_filter, Array.mem_toList_iff]
    constructor
    · rintro ⟨h1, h2⟩
      refine ⟨h1, fun hxv => ?_⟩
      have := (hcont x (Array.mem_toList_iff.2 h1)).2 hxv
      rw [this] at h2
      cases h2
    · rintro ⟨h1, h2⟩
      refine ⟨h1, ?_⟩
      cases hc : seen.contains x.born with
      | false => rfl
      | true => exact absurd ((hcont x (Array.mem_toList_iff.2 h1)).1 hc) h2
  generalize Array.filter (fun e => !seen.contains e.born) es = L at hL
  have hmem : ∀ x ∈ L.toList, x.born < clock := fun x hx => hold x ((hL x).1 hx).1
  have e1 : L.filter (fun x => decide (x.born < clock)) = L := Array.filter_eq_self.2 (fun x hx => by simpa using hmem x (by simpa using hx))
  have e2 : L.filter (fun x => decide (x.born ≥ clock)) = #[] := by
    rw [Array.filter_eq_empty_iff]
    intro x hx
    have := hmem x (by simpa using hx)
    simp
    omega
  simp only [e1, e2, Array.append_empty]
  by_cases h0 : L.size = 0
  · left
    have : L = #[] := Array.eq_empty_of_size_eq_zero h0
    subst this
    refine ⟨fun t ht => ?_, by simp [choose, Sem.run, Question.forced]⟩
    have hk : tabN t ∈ es.toList.map (·.key) := by rw [k.keys]; exact List.mem_map.2 ⟨t, ht, rfl⟩
    obtain ⟨x, hx, hxk⟩ := List.mem_map.1 hk
    have hxv : x ∈ vis := by
      apply Classical.byContradiction
      intro hn
      have := (hL x).2 ⟨hx, hn⟩
      simp at this
    have : x.key ∈ vis.map (·.key) := List.mem_map.2 ⟨x, hxv, rfl⟩
    rw [hv1, hxk] at this
    obtain ⟨u, hu, hue⟩ := List.mem_map.1 this
    rw [tabN_inj (k.small t ht) (hvs u hu) hue.symm]
    exact hu
  · right
    have hnem : L.isEmpty = false := by simp [Array.isEmpty, h0]
    simp only [hnem, Bool.false_eq_true, if_false, Array.empty_append, Array.size_map]
    have hch : ∃ (j : Nat) (w1 : World), j < L.size ∧ w1.Alike w ∧ w1.tape = w.tape ∧ (choose (Question.mapNext L.size)).run Tryd.prog w = .ok j w1 := by
      by_cases hf : L.size ≤ 1
      · exact ⟨0, w, by omega, ⟨rfl, rfl, rfl⟩, rfl, by simp [choose, Sem.run, Question.forced, hf]⟩
      · exact ⟨_, w.drew, Nat.mod_lt _ (by omega), ⟨rfl, rfl, rfl⟩, rfl, by
          simp only [choose, Sem.run, Question.forced, decide_eq_true_eq, hf, if_false, Question.cut]
          rfl⟩
    obtain ⟨j, w1, hj, hal, htape, hrun⟩ := hch
    have hjm : L[j] ∈ L.toList := by simp
    obtain ⟨hje, hjv⟩ := (hL _).1 hjm
    obtain ⟨t, ht, hkt⟩ := key_at k.keys hje
    have hi1 : w1.heap[it]? = some (.mapIter (some b) clock seen clock) := by rw [hal.1]; exact hi
    have hb1 : w1.heap[b]? = some (.map es clock) := by rw [hal.1]; exact hb
    have hset : ∀ o' : Obj, (setObj it o').run Tryd.prog w1 = .ok () { w1 with heap := w1.heap.setIfInBounds it o' } := fun o' => by
      simp [setObj, Sem.run, hi1]
    have hit' := heap_now (o' := .mapIter (some b) clock (seen.push L[j].born) clock) hi1
    have hb' : ({ w1 with heap := w1.heap.setIfInBounds it (.mapIter (some b) clock (seen.push L[j].born) clock) } : World).heap[b]? = some (.map es clock) := by
      simp only [Array.getElem?_setIfInBounds_ne hne]
      exact hb1
    refine ⟨t, L[j].val, { w1 with heap := w1.heap.setIfInBounds it (.mapIter (some b) clock (seen.push L[j].born) clock) }, ht, fun htv => ?_, ?_, ⟨es, clock, _, hb', k, hit', vis ++ [L[j]], ?_, ?_, ?_, ?_⟩, ?_, ?_⟩
    · have : tabN t ∈ vis.map (·.key) := by rw [hv1]; exact List.mem_map.2 ⟨t, htv, rfl⟩
      obtain ⟨y, hy, hyk⟩ := List.mem_map.1 this
      have := keys_inj k.keys k.nodup k.small (hv3 y hy) hje (by rw [hyk, hkt])
      exact hjv (this ▸ hy)
    · simp only [hrun, Array.getElem?_map, Array.getElem?_eq_getElem hj, Option.map_some, Sem.run_bind, hset, Result.andThen, hkt]
      rfl
    · simp [hv1, hkt]
    · simp [hv2]
    · intro x hx
      rcases List.mem_append.1 hx with hx | hx
      · exact hv3 x hx
      · simp at hx; subst hx; exact hje
    · rw [List.map_append, List.nodup_append]
      refine ⟨hv4, by simp, fun a ha c hc => ?_⟩
      simp at hc
      subst hc
      obtain ⟨y, hy, rfl⟩ := List.mem_map.1 ha
      intro e
      exact hjv (born_inj k.once (hv3 y hy) hje e ▸ hy)
    · have ht2 := heap_turn (w := w1) (b := it) (o' := .mapIter (some b) clock (seen.push L[j].born) clock)
      refine ⟨hal.2.1, htape, hal.2.2, ?_, fun i hi2 hne2 => ?_⟩
      · rw [← hal.1]; exact ht2.size
      · rw [ht2.block i (by rw [hal.1]; exact hi2) hne2, hal.1]
    · have hf : es.find? (·.born == L[j].born) = some L[j] := by rw [← Array.find?_toList]; exact find_born L[j] es.toList k.once hje
      simp only [Instr.entry, getObj, Sem.run_bind, Sem.run, hit', hb', Result.andThen, Array.back?_push, bne_self_eq_false, Bool.false_eq_true, if_false, hf, hkt]
      rfl

theorem map_eraseIdx' {α β : Type} (f : α → β) : ∀ (l : List α) (j : Nat), (l.eraseIdx j).map f = (l.map f).eraseIdx j
  | [], j => by simp
  | x :: l, 0 => by simp
  | x :: l, j + 1 => by simp [map_eraseIdx' f l j]
theorem filter_erase (t : Nat) : ∀ (ts : List Nat) (j : Nat), ts.Nodup → ts[j]? = some t → ts.filter (fun u => decide (u ≠ t)) = ts.eraseIdx j
  | [], j, _, h => by simp at h
  | x :: l, 0, hn, h => by
    simp at h
    subst h
    have hx : x ∉ l := (List.nodup_cons.1 hn).1
    rw [List.filter_cons, if_neg (by simp), List.eraseIdx_cons_zero]
    exact List.filter_eq_self.2 fun u hu => by
      have : u ≠ x := fun e => hx (e ▸ hu)
      simpa using this
  | x :: l, j + 1, hn, h => by
    have hx : x ∉ l := (List.nodup_cons.1 hn).1
    have h' : l[j]? = some t := by simpa using h
    have : x ≠ t := fun e => hx (e ▸ List.mem_of_getElem? h')
    rw [List.filter_cons, if_pos (by simpa using this), List.eraseIdx_cons_succ, filter_erase t l j (List.nodup_cons.1 hn).2 h']
theorem map_del {w : World} {b : Nat} {ts : List Nat} (h : IsMap w b ts) (t : Nat) (ht : t < top) :
    ∃ w', (∀ ty : TypeId, (Builtin.delete_ #[49, 24] ty #[.map (some b), tabN t]).run Tryd.prog w = .ok (.tuple #[]) w') ∧ IsMap w' b (ts.filter fun u => decide (u ≠ t)) ∧ Turned b w w' := by
  obtain ⟨es, clock, hb, k⟩ := h
  have hc : (Instr.checkKey es.isEmpty 10000 24 (tabN t)).run Tryd.prog w = .ok () w := check_tab _ _ w
  rcases find_spec t ht w es.toList ts k.keys k.small with ⟨hf, hn⟩ | ⟨j, u, hf, hj⟩
  · refine ⟨{ w with heap := w.heap.setIfInBounds b (.map es clock) }, ?_, ⟨_, _, heap_now hb, ?_⟩, heap_turn⟩
    · intro ty
      simp only [Builtin.delete_, List.getElem?_toArray, List.getElem?_cons_zero, List.getElem?_cons_succ, Sem.run_bind, run_underlying Tryd.underlying49, Result.andThen_ok, MapKept.run_getObj_map hb, hc, hf, MapKept.run_setObj_map _ hb]
      rfl
    · rw [List.filter_eq_self.2 fun u hu => by
        have : u ≠ t := fun e => hn (e ▸ hu)
        simpa using this]
      exact k
  · have hjl : j < es.size := by
      have := map_keyList k.keys
      rw [← Array.length_toList, this]
      exact (List.getElem?_eq_some_iff.1 hj).1
    have her : (es.eraseIdxIfInBounds j).toList = es.toList.eraseIdx j := by
      simp [Array.eraseIdxIfInBounds, hjl]
    have hts := filter_erase t ts j k.nodup hj
    refine ⟨{ w with heap := w.heap.setIfInBounds b (.map (es.eraseIdxIfInBounds j) clock) }, ?_, ⟨_, _, heap_now hb, ?_⟩, heap_turn⟩
    · intro ty
      simp only [Builtin.delete_, List.getElem?_toArray, List.getElem?_cons_zero, List.getElem?_cons_succ, Sem.run_bind, run_underlying Tryd.underlying49, Result.andThen_ok, MapKept.run_getObj_map hb, hc, hf, MapKept.run_setObj_map _ hb]
      rfl
    · rw [hts]
      refine ⟨?_, fun x hx => ?_, ?_, ?_, ?_⟩
      · rw [her, map_eraseIdx', map_eraseIdx', k.keys]
      · rw [her] at hx; exact k.old x (List.mem_of_mem_eraseIdx hx)
      · rw [her, map_eraseIdx']; exact k.once.sublist (List.eraseIdx_sublist _ _)
      · exact k.nodup.sublist (List.eraseIdx_sublist _ _)
      · intro u hu; exact k.small u (List.mem_of_mem_eraseIdx hu)
theorem map_len {w : World} {b : Nat} {ts : List Nat} (h : IsMap w b ts) (ty : TypeId) : (Builtin.len_ #[49] ty #[.map (some b)]).run Tryd.prog w = .ok (.int .i64 (ts.length : Int)) w := by
  obtain ⟨es, clock, hb, k⟩ := h
  have := map_keyList k.keys
  simp only [Builtin.len_, List.getElem?_toArray, List.getElem?_cons_zero, Sem.run_bind, run_underlying Tryd.underlying49, Result.andThen_ok, MapKept.run_getObj_map hb]
  rw [← this]
  rfl
end Go.Proofs.YtmfocngdobcfcabDoor
