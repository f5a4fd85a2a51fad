/-
  The plan's two maps: nodes by handles, laid and gone through in whatever order; handles by nodes, laid and looked up.
-/
import Derived.Test.YteickckgljlacaaGreatBaseS
import Derived.MapKept
import Derived.Laws.IdiomRangeMap
import Derived.Laws.StructEq
namespace Go.Proofs.YteickckgljlacaaGreat.Sw
open Go Go.RowKit

/-- A map's pairs, in the order in which they were laid. -/
structure MapIs (es : Array MapEntry) (clock : Nat) (l : List (Value × Value)) : Prop where
  pairs : es.toList.map (fun e => (e.key, e.val)) = l
  old : ∀ x ∈ es.toList, x.born < clock
  once : (es.toList.map (·.born)).Nodup
  nodup : (l.map (·.1)).Nodup
def IsM (w : World) (b : Nat) (l : List (Value × Value)) : Prop := ∃ es clock, w.heap[b]? = some (.map es clock) ∧ MapIs es clock l
section
variable {w u : World} {b : Nat} {l : List (Value × Value)}
theorem IsM.lt (h : IsM w b l) : b < w.heap.size := by
  obtain ⟨es, clock, h, _⟩ := h
  exact (Array.getElem?_eq_some_iff.1 h).1
theorem IsM.same (h : IsM w b l) (e : u.heap[b]? = w.heap[b]?) : IsM u b l := by
  obtain ⟨es, clock, h, k⟩ := h
  exact ⟨es, clock, e.trans h, k⟩
theorem IsM.fresh (w : World) : IsM (w.alloc (.map #[] 0)) w.heap.size [] := ⟨#[], 0, (MapKept.heap_alloc w _).1, ⟨rfl, by simp, by simp, by simp⟩⟩
/-- A pair more, of a new key. -/
theorem IsM.put (h : IsM w b l) {t K E : TypeId} (ht : Tryz.prog.underlying t = some (.map K E)) (k v : Value) (hc : (Instr.checkKey false 10000 K k).run Tryz.prog w = .ok () w) (hf : ∀ es : List MapEntry, es.map (fun e => (e.key, e.val)) = l → (Instr.findKey K k es).run Tryz.prog w = .ok none w) (hn : k ∉ l.map (·.1)) :
    ∃ w', (Instr.mapUpdate t (.map (some b)) k v).run Tryz.prog w = .ok () w' ∧ IsM w' b (l ++ [(k, v)]) ∧ Turned b w w' := by
  obtain ⟨es, clock, hb, m⟩ := h
  have hf' := hf es.toList m.pairs
  refine ⟨{ w with heap := w.heap.setIfInBounds b (.map (es.push { key := k, val := v, born := clock }) (clock + 1)) }, ?_, ⟨_, _, heap_now hb, ?_, ?_, ?_, ?_⟩, heap_turn⟩
  · simp only [Instr.mapUpdate, Sem.run_bind, run_underlying ht, Result.andThen_ok, MapKept.run_getObj_map hb, hc, hf']
    exact MapKept.run_setObj_map _ hb
  · simp [m.pairs]
  · intro x hx
    simp only [Array.toList_push, List.mem_append, List.mem_singleton] at hx
    rcases hx with hx | rfl
    · exact Nat.lt_succ_of_lt (m.old x hx)
    · exact Nat.lt_succ_self _
  · simp only [Array.toList_push, List.map_append, List.map_cons, List.map_nil]
    refine List.nodup_append.2 ⟨m.once, by simp, fun a ha c hc' => ?_⟩
    simp only [List.mem_singleton] at hc'
    subst hc'
    obtain ⟨x, hx, rfl⟩ := List.mem_map.1 ha
    exact Nat.ne_of_lt (m.old x hx)
  · rw [List.map_append, List.nodup_append]
    refine ⟨m.nodup, by simp, fun a ha c hc' e => ?_⟩
    simp at hc'
    subst hc'
    subst e
    exact hn ha
end

/-! ## Nodes by handles -/
def ndV (d : Nd) : Value := .agg #[.int .i64 (d.1 : Int), .int .u32 (d.2.1 : Int), .int .u32 (d.2.2 : Int)]
def hV (x : Nat) : Value := .int .u32 (x : Int)
theorem hV_inj {x y : Nat} (h : hV x = hV y) : x = y := by
  unfold hV at h
  injection h with _ h
  omega
theorem ndV_inj {d e : Nd} (h : ndV d = ndV e) : d = e := by
  unfold ndV at h
  simp only [Value.agg.injEq, Array.mk.injEq, List.cons.injEq, Value.int.injEq, true_and, and_true, Int.natCast_inj] at h
  exact Prod.ext h.1 (Prod.ext h.2.1 h.2.2)
def pH (p : Nat × Nd) : Value × Value := (hV p.1, ndV p.2)
def pL (p : Nd × Nat) : Value × Value := (ndV p.1, hV p.2)
def IsH (w : World) (b : Nat) (l : List (Nat × Nd)) : Prop := IsM w b (l.map pH)
def IsL (w : World) (b : Nat) (l : List (Nd × Nat)) : Prop := IsM w b (l.map pL)
theorem keysH (l : List (Nat × Nd)) (x : Nat) : hV x ∈ (l.map pH).map (·.1) ↔ x ∈ l.map (·.1) := by
  simp only [List.map_map, List.mem_map, Function.comp, pH]
  exact ⟨fun ⟨p, hp, e⟩ => ⟨p, hp, hV_inj e⟩, fun ⟨p, hp, e⟩ => ⟨p, hp, by rw [e]⟩⟩
theorem keysL (l : List (Nd × Nat)) (d : Nd) : ndV d ∈ (l.map pL).map (·.1) ↔ d ∈ l.map (·.1) := by
  simp only [List.map_map, List.mem_map, Function.comp, pL]
  exact ⟨fun ⟨p, hp, e⟩ => ⟨p, hp, ndV_inj e⟩, fun ⟨p, hp, e⟩ => ⟨p, hp, by rw [e]⟩⟩
theorem findH (x : Nat) : ∀ (es : List MapEntry) (l : List (Nat × Nd)) (i : Nat), es.map (fun e => (e.key, e.val)) = l.map pH → x ∉ l.map (·.1) → Instr.findNow (.int .u32) (hV x) es i = some none
  | [], _, _, _, _ => rfl
  | e :: es, [], _, h, _ => by simp at h
  | e :: es, p :: l, i, h, hn => by
    simp only [List.map_cons, List.cons.injEq, pH, Prod.mk.injEq] at h
    obtain ⟨⟨h1, h2⟩, h3⟩ := h
    simp only [List.map_cons, List.mem_cons, not_or] at hn
    have c : ((x : Int) == (p.1 : Int)) = false := by
      rw [beq_eq_false_iff_ne]
      have := hn.1
      omega
    have ih := findH x es l (i + 1) h3 hn.2
    unfold hV at h1 ih ⊢
    simp [Instr.findNow, h1, Instr.sameNow, c, ih]
theorem isKeyH (x : Nat) : MapKept.IsKey (.int .u32) (hV x) := by simp [MapKept.IsKey, hV]
theorem putH {w : World} {b : Nat} {l : List (Nat × Nd)} (h : IsH w b l) (x : Nat) (d : Nd) (hn : x ∉ l.map (·.1)) :
    ∃ w', (Instr.mapUpdate 101 (.map (some b)) (.int .u32 (x : Int)) (ndV d)).run Tryz.prog w = .ok () w' ∧ IsH w' b (l ++ [(x, d)]) ∧ Turned b w w' := by
  obtain ⟨w', h1, h2, h3⟩ := IsM.put h Tryz.underlying101 (hV x) (ndV d) (MapKept.run_checkKey Tryz.underlying38 (isKeyH x) false 9999) (fun es he => MapKept.run_findKey Tryz.underlying38 (findH x es l 0 he hn)) (fun e => hn ((keysH l x).1 e))
  refine ⟨w', h1, ?_, h3⟩
  show IsM w' b _
  rw [List.map_append]
  exact h2

/-! ## Handles by nodes -/
theorem node_fields : Tryz.prog.underlying 139 = some (.struct (Tryz.prog.fieldsOf 139)) ∧ Tryz.prog.stoodInHeld 139 = false := by
  constructor <;> kernel_rfl
theorem node_three : (Tryz.prog.fieldsOf 139).toList.map (fun f => (f.name, f.type, f.offset)) = [("Level", 3, 0), ("Low", 38, 1), ("High", 38, 2)] := by kernel_rfl
theorem three_of {fs : List Field} {a b c : String × TypeId × Nat} (h : fs.map (fun f => (f.name, f.type, f.offset)) = [a, b, c]) : ∃ f g k, fs = [f, g, k] ∧ (f.name = a.1 ∧ f.type = a.2.1 ∧ f.offset = a.2.2) ∧ (g.name = b.1 ∧ g.type = b.2.1 ∧ g.offset = b.2.2) ∧ (k.name = c.1 ∧ k.type = c.2.1 ∧ k.offset = c.2.2) := by
  match fs, h with
  | [f, g, k], h =>
    simp only [List.map_cons, List.map_nil, List.cons.injEq, and_true] at h
    obtain ⟨rfl, rfl, rfl⟩ := h
    exact ⟨f, g, k, rfl, ⟨rfl, rfl, rfl⟩, ⟨rfl, rfl, rfl⟩, ⟨rfl, rfl, rfl⟩⟩
theorem part_int (xs : Array Value) (k : Nat) (a : Int) (hx : xs[k]? = some (.int .i64 a)) (w : World) : (part 3 xs k).run Tryz.prog w = .ok (.int .i64 a) w := by
  simp [part, hx]
theorem part_h (xs : Array Value) (k : Nat) (a : Int) (hx : xs[k]? = some (.int .u32 a)) (w : World) : (part 38 xs k).run Tryz.prog w = .ok (.int .u32 a) w := by
  simp [part, hx]
theorem eq_nd (a b : Nd) (w : World) : (Op.equal 139 (ndV a) (ndV b)).run Tryz.prog w = .ok (decide (a = b)) w := by
  have hi : ∀ (x y : Int) (w : World), (Op.equalIn 9999 3 (.int .i64 x) (.int .i64 y)).run Tryz.prog w = .ok (x == y) w := fun x y w => run_equalIn_int w 9998 3 .i64 .i64 x y Tryz.underlying3
  have hh : ∀ (x y : Int) (w : World), (Op.equalIn 9999 38 (.int .u32 x) (.int .u32 y)).run Tryz.prog w = .ok (x == y) w := fun x y w => run_equalIn_int w 9998 38 .u32 .u32 x y Tryz.underlying38
  unfold Op.equal
  show (Op.equalIn (9999 + 1) 139 (ndV a) (ndV b)).run Tryz.prog w = _
  have e : decide (a = b) = (((a.1 : Int) == (b.1 : Int)) && (((a.2.1 : Int) == (b.2.1 : Int)) && ((a.2.2 : Int) == (b.2.2 : Int)))) := by
    rw [Bool.eq_iff_iff, decide_eq_true_iff]
    simp only [Bool.and_eq_true, beq_iff_eq, Int.natCast_inj]
    exact ⟨fun h => by subst h; exact ⟨rfl, rfl, rfl⟩, fun h => Prod.ext h.1 (Prod.ext h.2.1 h.2.2)⟩
  rw [e]
  unfold ndV
  rw [run_equalIn_struct (P := Tryz.prog) w 9999 139 _ _ node_fields.1 node_fields.2]
  obtain ⟨f, g, k, hf, ⟨a1, a2, a3⟩, ⟨b1, b2, b3⟩, ⟨c1, c2, c3⟩⟩ := three_of node_three
  rw [hf]
  generalize 9999 = d at hi hh
  generalize (a.1 : Int) = x0
  generalize (a.2.1 : Int) = x1
  generalize (a.2.2 : Int) = x2
  generalize (b.1 : Int) = y0
  generalize (b.2.1 : Int) = y1
  generalize (b.2.2 : Int) = y2
  have p0 := fun w => part_int #[.int .i64 x0, .int .u32 x1, .int .u32 x2] 0 x0 rfl w
  have p1 := fun w => part_h #[.int .i64 x0, .int .u32 x1, .int .u32 x2] 1 x1 rfl w
  have p2 := fun w => part_h #[.int .i64 x0, .int .u32 x1, .int .u32 x2] 2 x2 rfl w
  have q0 := fun w => part_int #[.int .i64 y0, .int .u32 y1, .int .u32 y2] 0 y0 rfl w
  have q1 := fun w => part_h #[.int .i64 y0, .int .u32 y1, .int .u32 y2] 1 y1 rfl w
  have q2 := fun w => part_h #[.int .i64 y0, .int .u32 y1, .int .u32 y2] 2 y2 rfl w
  have n1 : (("Level" : String) ≠ "_") := by decide
  have n2 : (("Low" : String) ≠ "_") := by decide
  have n3 : (("High" : String) ≠ "_") := by decide
  simp only [Op.eqFields, a1, a2, a3, b1, b2, b3, c1, c2, c3, ne_eq, n1, n2, n3, not_false_eq_true, if_true, Sem.run_bind, Sem.run_ite, p0, p1, p2, q0, q1, q2, hi, hh, Result.andThen_ok, Sem.run_pure]
  cases x0 == y0 <;> cases x1 == y1 <;> cases x2 == y2 <;> rfl
theorem check_nd (d : Nd) (e : Bool) (w : World) : (Instr.checkKey e 10000 139 (ndV d)).run Tryz.prog w = .ok () w := by
  have hi : ∀ (a : Int) (w : World), (Instr.checkKey e 9999 3 (.int .i64 a)).run Tryz.prog w = .ok () w := fun a w => MapKept.run_checkKey (d := .int .i64) Tryz.underlying3 (by simp [MapKept.IsKey]) e 9998
  have hh : ∀ (a : Int) (w : World), (Instr.checkKey e 9999 38 (.int .u32 a)).run Tryz.prog w = .ok () w := fun a w => MapKept.run_checkKey (d := .int .u32) Tryz.underlying38 (by simp [MapKept.IsKey]) e 9998
  rw [show (10000 : Nat) = 9999 + 1 from rfl]
  obtain ⟨f, g, k, hf, ⟨a1, a2, a3⟩, ⟨b1, b2, b3⟩, ⟨c1, c2, c3⟩⟩ := three_of node_three
  generalize 9999 = n at hi hh
  unfold ndV
  generalize (d.1 : Int) = x0
  generalize (d.2.1 : Int) = x1
  generalize (d.2.2 : Int) = x2
  have p0 := fun w => part_int #[.int .i64 x0, .int .u32 x1, .int .u32 x2] 0 x0 rfl w
  have p1 := fun w => part_h #[.int .i64 x0, .int .u32 x1, .int .u32 x2] 1 x1 rfl w
  have p2 := fun w => part_h #[.int .i64 x0, .int .u32 x1, .int .u32 x2] 2 x2 rfl w
  have n1 : (("Level" : String) ≠ "_") := by decide
  have n2 : (("Low" : String) ≠ "_") := by decide
  have n3 : (("High" : String) ≠ "_") := by decide
  simp only [Instr.checkKey, Sem.run_bind, run_underlying node_fields.1, Result.andThen_ok]
  rw [← Array.forIn_toList, hf]
  simp only [List.forIn_cons, List.forIn_nil, a1, a2, a3, b1, b2, b3, c1, c2, c3, ne_eq, n1, n2, n3, not_false_eq_true, if_true, Sem.run_bind, p0, p1, p2, hi, hh, Result.andThen_ok, Sem.run_pure]
theorem askL (d : Nd) (w : World) : ∀ (es : List MapEntry) (l : List (Nd × Nat)) (i : Nat), es.map (fun e => (e.key, e.val)) = l.map pL →
    ((Instr.findAsking 139 (ndV d) es i).run Tryz.prog w = .ok none w ∧ d ∉ l.map (·.1)) ∨ ∃ j x, (Instr.findAsking 139 (ndV d) es i).run Tryz.prog w = .ok (some (i + j, hV x)) w ∧ l[j]? = some (d, x)
  | [], [], _, _ => .inl ⟨rfl, by simp⟩
  | [], p :: l, _, h => by simp at h
  | e :: es, [], _, h => by simp at h
  | e :: es, p :: l, i, h => by
    simp only [List.map_cons, List.cons.injEq, pL, Prod.mk.injEq] at h
    obtain ⟨⟨h1, h2⟩, h3⟩ := h
    have heq := eq_nd d p.1 w
    by_cases c : d = p.1
    · right
      rw [decide_eq_true c] at heq
      refine ⟨0, p.2, ?_, by simp [c]⟩
      simp only [Instr.findAsking, Sem.run_bind, h1, heq, Result.andThen_ok, if_true, Nat.add_zero, h2]
      rfl
    · rw [decide_eq_false c] at heq
      rcases askL d w es l (i + 1) h3 with ⟨r1, r2⟩ | ⟨j, x, r1, r2⟩
      · left
        refine ⟨?_, by simp only [List.map_cons, List.mem_cons, not_or]; exact ⟨c, r2⟩⟩
        simp only [Instr.findAsking, Sem.run_bind, h1, heq, Result.andThen_ok, Bool.false_eq_true, if_false]
        exact r1
      · right
        refine ⟨j + 1, x, ?_, by simpa using r2⟩
        simp only [Instr.findAsking, Sem.run_bind, h1, heq, Result.andThen_ok, Bool.false_eq_true, if_false]
        rw [r1, show i + 1 + j = i + (j + 1) by omega]
theorem findL (d : Nd) (w : World) (es : List MapEntry) (l : List (Nd × Nat)) (h : es.map (fun e => (e.key, e.val)) = l.map pL) :
    ((Instr.findKey 139 (ndV d) es).run Tryz.prog w = .ok none w ∧ d ∉ l.map (·.1)) ∨ ∃ j x, (Instr.findKey 139 (ndV d) es).run Tryz.prog w = .ok (some (j, hV x)) w ∧ l[j]? = some (d, x) := by
  cases es with
  | nil =>
    have : l = [] := by cases l with | nil => rfl | cons => simp at h
    subst this
    left
    refine ⟨?_, by simp⟩
    simp only [Instr.findKey, Sem.run_bind, run_underlying node_fields.1, Result.andThen_ok, Instr.findNow]
    rfl
  | cons e es =>
    have hk : ∃ u, e.key = ndV u := by
      cases l with
      | nil => simp at h
      | cons p l => simp only [List.map_cons, List.cons.injEq, pL, Prod.mk.injEq] at h; exact ⟨p.1, h.1.1⟩
    obtain ⟨u, hu⟩ := hk
    have := askL d w (e :: es) l 0 h
    simp only [Nat.zero_add] at this
    have hr : (Instr.findKey 139 (ndV d) (e :: es)).run Tryz.prog w = (Instr.findAsking 139 (ndV d) (e :: es)).run Tryz.prog w := by
      simp only [Instr.findKey, Sem.run_bind, run_underlying node_fields.1, Result.andThen_ok, Instr.findNow, hu]
      rfl
    rw [hr]
    exact this
theorem putL {w : World} {b : Nat} {l : List (Nd × Nat)} (h : IsL w b l) (d : Nd) (x : Nat) (hn : d ∉ l.map (·.1)) :
    ∃ w', (Instr.mapUpdate 141 (.map (some b)) (ndV d) (.int .u32 (x : Int))).run Tryz.prog w = .ok () w' ∧ IsL w' b (l ++ [(d, x)]) ∧ Turned b w w' := by
  obtain ⟨w', h1, h2, h3⟩ := IsM.put h Tryz.underlying141 (ndV d) (hV x) (check_nd d false w) (fun es he => (findL d w es l he).elim (·.1) fun ⟨j, y, _, q⟩ => absurd (List.mem_map.2 ⟨_, List.mem_of_getElem? q, rfl⟩) hn) (fun e => hn ((keysL l d).1 e))
  refine ⟨w', h1, ?_, h3⟩
  show IsM w' b _
  rw [List.map_append]
  exact h2
theorem lookL_no {w : World} {b : Nat} {l : List (Nd × Nat)} (h : IsL w b l) (d : Nd) (hn : d ∉ l.map (·.1)) :
    (Instr.lookup 141 (.map (some b)) (ndV d) true).run Tryz.prog w = .ok (.tuple #[.int .u32 0, .bool false]) w := by
  obtain ⟨es, clock, hb, m⟩ := h
  have hc := check_nd d es.isEmpty w
  rcases findL d w es.toList l m.pairs with ⟨hf, _⟩ | ⟨j, x, _, q⟩
  · simp only [Instr.lookup, Sem.run_bind, run_underlying Tryz.underlying141, Result.andThen_ok, MapKept.run_getObj_map hb, Sem.run_pure, hc, hf, zero3]
    rfl
  · exact absurd (List.mem_map.2 ⟨_, List.mem_of_getElem? q, rfl⟩) hn
theorem lookL_yes {w : World} {b : Nat} {l : List (Nd × Nat)} (h : IsL w b l) (d : Nd) (x : Nat) (hx : (d, x) ∈ l) (both : Bool) :
    (Instr.lookup 141 (.map (some b)) (ndV d) both).run Tryz.prog w = .ok (if both then .tuple #[.int .u32 (x : Int), .bool true] else .int .u32 (x : Int)) w := by
  obtain ⟨es, clock, hb, m⟩ := h
  have hc := check_nd d es.isEmpty w
  have hnd : (l.map (·.1)).Nodup := by
    have := m.nodup
    rw [List.map_map] at this
    rw [show ((fun p : Value × Value => p.1) ∘ pL) = ndV ∘ (·.1) from rfl, ← List.map_map] at this
    exact (List.pairwise_map.1 this).imp fun h e => h (by rw [e])
  rcases findL d w es.toList l m.pairs with ⟨_, hn⟩ | ⟨j, y, hf, q⟩
  · exact absurd (List.mem_map.2 ⟨_, hx, rfl⟩) hn
  · have e : y = x := by
      obtain ⟨i, hi⟩ := List.mem_iff_getElem?.1 hx
      have e1 : (l.map (·.1))[i]? = some d := by simp [hi]
      have e2 : (l.map (·.1))[j]? = some d := by simp [q]
      have hij : i = j := (List.getElem?_inj (List.getElem?_eq_some_iff.1 e1).1 hnd).1 (e1.trans e2.symm)
      rw [hij, q] at hi
      exact (Prod.mk.inj (Option.some.inj hi)).2
    subst e
    cases both
    · simp only [Instr.lookup, Sem.run_bind, run_underlying Tryz.underlying141, Result.andThen_ok, MapKept.run_getObj_map hb, Sem.run_pure, hc, hf]
      rfl
    · simp only [Instr.lookup, Sem.run_bind, run_underlying Tryz.underlying141, Result.andThen_ok, MapKept.run_getObj_map hb, Sem.run_pure, hc, hf]
      rfl
end Go.Proofs.YteickckgljlacaaGreat.Sw
