/-
  The library's compacting of a sorted row of handles: each once.
-/
import Derived.Test.YteickckgljlacaaGreatRsDel
namespace Go.Proofs.YteickckgljlacaaGreat.Rs
open Go Go.RowKit

/-- Of the first j of d the first k of D are left, each once. -/
structure Cp (d D : Array Int) (j k : Nat) : Prop where
  size : D.size = d.size
  kj : k ≤ j
  k0 : 0 < k
  same : ∀ i, k ≤ i → D[i]! = d[i]!
  inc : ∀ i i', i < i' → i' < k → D[i]! < D[i']!
  mem : ∀ x, x ∈ lst D k ↔ x ∈ lst d j
  last : D[k - 1]! = d[j - 1]!
section
variable {d D : Array Int} {j k : Nat}
theorem Cp.start (d : Array Int) : Cp d d 1 1 := ⟨rfl, Nat.le_refl _, by omega, fun _ _ => rfl, fun i i' h1 h2 => by omega, fun _ => Iff.rfl, rfl⟩
theorem Cp.skip (h : Cp d D j k) (he : d[j]! = d[j - 1]!) : Cp d D (j + 1) k := by
  have hk := h.k0
  have hj := h.kj
  refine ⟨h.size, by omega, hk, h.same, h.inc, fun x => ?_, by rw [Nat.add_sub_cancel, he]; exact h.last⟩
  rw [h.mem x, lst_succ, List.mem_append]
  constructor
  · exact .inl
  · rintro (hx | hx)
    · exact hx
    · simp only [List.mem_singleton] at hx
      rw [hx, he]
      exact lst_mem.2 ⟨j - 1, by omega, rfl⟩
theorem Cp.take (h : Cp d D j k) (hj : j < d.size) (hs : d[j - 1]! ≤ d[j]!) (hne : ¬ d[j]! = d[j - 1]!) : Cp d (D.setIfInBounds k d[j]!) (j + 1) (k + 1) := by
  have hk0 := h.k0
  have hkj := h.kj
  have hkD : k < D.size := by rw [h.size]; omega
  have hlt : D[k - 1]! < d[j]! := by rw [h.last]; omega
  have hg := get_set D k d[j]! hkD
  refine ⟨by simpa using h.size, by omega, by omega, fun i hi => by rw [hg, if_neg (by omega)]; exact h.same i (by omega), fun i i' h1 h2 => ?_, fun x => ?_, by rw [Nat.add_sub_cancel, hg, if_pos rfl, Nat.add_sub_cancel]⟩
  · rw [hg, hg, if_neg (by omega)]
    by_cases e : i' = k
    · rw [if_pos e]
      by_cases e2 : i = k - 1
      · rw [e2]; exact hlt
      · exact Int.lt_trans (h.inc i (k - 1) (by omega) (by omega)) hlt
    · rw [if_neg e]
      exact h.inc i i' h1 (by omega)
  · rw [lst_succ, lst_succ, hg, if_pos rfl, lst_congr (d := D.setIfInBounds k d[j]!) (D := D) fun i hi => by rw [hg, if_neg (by omega)]]
    rw [List.mem_append, List.mem_append, h.mem x]
/-- As long as nothing has come twice. -/
theorem Cp.on (h : Cp d d k k) (hk : k < d.size) (hs : d[k - 1]! ≤ d[k]!) (hne : ¬ d[k]! = d[k - 1]!) : Cp d d (k + 1) (k + 1) := by
  have := h.take hk hs hne
  have e : d.setIfInBounds k d[k]! = d := by
    apply Array.ext
    · simp
    · intro i h1 h2
      simp only [Array.getElem_setIfInBounds h2]
      split
      · rename_i e; subst e; rw [getElem!_pos d k hk]
      · rfl
  rw [e] at this
  exact this
theorem Cp.pairs (h : Cp d D j k) : (lst D k).Pairwise (· < ·) := by
  rw [List.pairwise_iff_getElem]
  intro i i' h1 h2 h3
  rw [lst_len] at h1 h2
  simp only [lst, List.getElem_map, List.getElem_range]
  exact h.inc i i' h3 h2
end

/-- The same handles. -/
def Same (l l' : List Int) : Prop := ∀ x, x ∈ l ↔ x ∈ l'
theorem Same.refl (l : List Int) : Same l l := fun _ => Iff.rfl

end Go.Proofs.YteickckgljlacaaGreat.Rs
