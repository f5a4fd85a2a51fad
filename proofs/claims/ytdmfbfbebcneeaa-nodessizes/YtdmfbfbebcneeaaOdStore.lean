/-
  An order that lies at the head of a greater block: how many variables there are; a copy of it.
-/
import Derived.Test.YtdmfbfbebcneeaaOdNew
namespace Go.Proofs.Ytdmfbfbebcneeaa.Od
open Go Go.RowKit

theorem run_loadVar_cells {P : Program} (w : World) (g o : Nat) (ty : TypeId) (cs : Array Value) (d : TypeDesc) (hc : ∀ j u, cs.toList[j]? = some u → w.cell? ⟨g, o + j, none⟩ = some u)
    (hu : P.underlying ty = some d) (hd : (match d with | .struct _ | .array _ _ => true | _ => false) = true) (hi : (P.info? ty).map (·.size) = some cs.size) :
    (loadVar ty ⟨g, o, none⟩).run P w = .ok (.agg cs) w := by
  have hl : (loadCells ⟨g, o, none⟩ cs.toList.length).run P w = .ok cs.toList.toArray w :=
    run_loadCells_list (P := P) w ⟨g, o, none⟩ cs.toList (fun j v hv => by
      have hadd : (⟨g, o, none⟩ : Addr).add j = ⟨g, o + j, none⟩ := by unfold Addr.add; split <;> simp_all
      rw [hadd]
      exact hc j v hv)
  cases hq : P.info? ty with
  | none => simp [hq] at hi
  | some i =>
    have hs : i.size = cs.size := by simpa [hq] using hi
    have hagg : (isAgg ty).run P w = .ok true w := by
      unfold isAgg
      rw [Sem.run_bind, run_underlying hu w]
      cases d <;> simp_all
    simp only [Array.length_toList, Array.toArray_toList] at hl
    simp [loadVar, Sem.run_bind, hagg, sizeOf, typeInfo, hq, hs, hl]
theorem wp_load_cells {P : Program} {o : Oper} {a : Act} {w : World} {K : Act → World → Prop} {Q : Exit → Act → World → Prop} (ty : TypeId) (x : Operand) (ho : o.op = .load ty x)
    (g q : Nat) (hx : a.eval x = .pointer (some ⟨g, q, none⟩)) (cs : Array Value) (d : TypeDesc) (hc : ∀ j u, cs.toList[j]? = some u → w.cell? ⟨g, q + j, none⟩ = some u)
    (hu : P.underlying ty = some d) (hd : (match d with | .struct _ | .array _ _ => true | _ => false) = true) (hi : (P.info? ty).map (·.size) = some cs.size)
    (h : K (a.put o.dst (.agg cs)) w) : o.wp P a w K Q := by
  unfold Oper.wp execOp
  simp only [ho, hx, Instr.loadAt, Instr.sureAddr, Sem.run_bind, Sem.run_pure, Result.andThen_ok, run_loadVar_cells w g q ty cs d hc hu hd hi]
  exact h
theorem wpList_load_cells {P : Program} {ops : Array Oper} {rest : List Oper} {o : Oper} {a : Act} {w : World} {Q : Exit → Act → World → Prop} (hgd : o.guard = none) (ty : TypeId) (x : Operand) (ho : o.op = .load ty x)
    (g q : Nat) (hx : a.eval x = .pointer (some ⟨g, q, none⟩)) (cs : Array Value) (d : TypeDesc) (hc : ∀ j u, cs.toList[j]? = some u → w.cell? ⟨g, q + j, none⟩ = some u)
    (hu : P.underlying ty = some d) (hd : (match d with | .struct _ | .array _ _ => true | _ => false) = true) (hi : (P.info? ty).map (·.size) = some cs.size)
    (h : wpList P ops Q rest (a.put o.dst (.agg cs)) w) : wpList P ops Q (o :: rest) a w :=
  wpList_plain hgd fun _ hK => wp_load_cells ty x ho g q hx cs d hc hu hd hi (hK _ _ h)

section
variable {w : World} {P n : Nat} {v l : Nat → Nat}
theorem slen_any (h : w.cell? ⟨P, 0, none⟩ = some (.int .i64 (n : Int))) :
    Calls Try.prog 29 #[.pointer (some ⟨P, 0, none⟩)] w fun e w' => e = .returned (.int .i64 (n : Int)) ∧ w' = w := by
  go_enter Try.func29, Try.ntmps29
  go_wp2
  go_ret
  exact ⟨rfl, rfl⟩
/-- The cells of an order as a row. -/
theorem ord_row (n : Nat) (v l : Nat → Nat) : ∃ c : Array Value, c.size = 17 ∧ (∀ i, i < 17 → c[i]? = some (ordCell n v l i)) ∧ c.all (·.oneCell') = true := by
  refine ⟨((List.range 17).map (ordCell n v l)).toArray, by simp, fun i hi => by simp [hi], ?_⟩
  rw [Array.all_eq_true]
  intro i hi
  simp [ordCell, Value.oneCell']
theorem scopy_any (h : ∀ i, i < 17 → w.cell? ⟨P, i, none⟩ = some (ordCell n v l i)) :
    Calls Try.prog 41 #[.pointer (some ⟨P, 0, none⟩)] w fun e w' => e = .returned (.pointer (some ⟨w.heap.size, 0, none⟩)) ∧ IsOrd w' w.heap.size n v l ∧ Below w.heap.size w w' := by
  obtain ⟨c, hs, hc, h1⟩ := ord_row n v l
  have hC : Aside (c.size = 17) := hs
  have hA : Aside (c.all (·.oneCell') = true) := h1
  have hD : Aside (∀ j u, c.toList[j]? = some u → w.cell? ⟨P, 0 + j, none⟩ = some u) := fun j u hu => by
    have hj : j < 17 := by
      have := (List.getElem?_eq_some_iff.1 hu).1
      simp [hs] at this
      exact this
    rw [Nat.zero_add, h j hj, ← hc j hj]
    simpa using hu
  clear hs h1 h
  go_enter Try.func41, Try.ntmps41
  go_wp2_with (first
    | refine wpList_load_cells rfl 79 (.tmp 5) rfl P 0 rfl c _ hD.out Try.underlying79 rfl (by rw [hC.out]; kernel_rfl) ?_
    | refine wpList_store_row rfl 79 (.tmp 3) (.tmp 6) rfl w.heap.size c rfl rfl 79 _ (heap_alloc_new w _) (by rw [hC.out]; kernel_rfl) (by rw [hC.out]; rfl) hA.out ?_)
  go_ret
  refine ⟨rfl, ⟨c, setRow_heap _ _ _ _ 79 _ (heap_alloc_new w _), hC.out, hc⟩, ?_⟩
  exact ((Below.refl _ w).alloc (Nat.le_refl _) _).trans ⟨rfl, rfl, rfl, by simp [World.setRow], fun k hk => setRow_other _ _ k _ (by omega)⟩
end
end Go.Proofs.Ytdmfbfbebcneeaa.Od
