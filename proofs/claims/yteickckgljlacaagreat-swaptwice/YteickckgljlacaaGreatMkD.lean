/-
  Which handles of a store's are free, without a program.
-/
import Derived.Test.YteickckgljlacaaGreatMkC
namespace Go.Proofs.YteickckgljlacaaGreat.Mk
open Go Go.RowKit

theorem downL_mem {n x : Nat} : x ∈ downL n n ↔ x < n := by
  unfold downL
  rw [List.mem_map]
  constructor
  · rintro ⟨i, hi, rfl⟩
    have := List.mem_range.1 hi
    omega
  · intro h
    exact ⟨n - 1 - x, List.mem_range.2 (by omega), by omega⟩
theorem downL_fall (n : Nat) : (downL n n).Pairwise (· > ·) := by
  unfold downL
  rw [List.pairwise_map]
  refine List.Pairwise.imp_of_mem ?_ List.pairwise_lt_range
  intro a b ha hb h
  have := List.mem_range.1 ha
  have := List.mem_range.1 hb
  omega
/-- The handles of those of pre whose words are none. -/
def frees (wd : Nat → Int) (pre : List Nat) : List Nat := (pre.filter fun i => decide (wd i = 0)).map (· + 2)
theorem frees_zero {wd : Nat → Int} {pre : List Nat} {i : Nat} (h : wd i = 0) : frees wd (pre ++ [i]) = frees wd pre ++ [i + 2] := by
  unfold frees
  rw [List.filter_append, List.map_append]
  simp [h]
theorem frees_no {wd : Nat → Int} {pre : List Nat} {i : Nat} (h : ¬ wd i = 0) : frees wd (pre ++ [i]) = frees wd pre := by
  unfold frees
  rw [List.filter_append, List.map_append]
  simp [h]
theorem frees_len (wd : Nat → Int) (pre : List Nat) : (frees wd pre).length ≤ pre.length := by
  unfold frees
  rw [List.length_map]
  exact List.length_filter_le _ _
/-- The free ones of a store's. -/
theorem frees_of {M : Mdl} {W : Nat} {wd : Nat → Int} (o : M.Ok) (top : ∀ x ∈ M.hs, x < 2 + W) (inn : ∀ i, i < W → (¬ wd i = 0 ↔ i + 2 ∈ M.hs)) : (frees wd (downL W W)).Pairwise (· > ·) ∧ (∀ x, x ∈ frees wd (downL W W) ↔ 2 ≤ x ∧ x < 2 + W ∧ x ∉ M.hs) ∧ M.hs.length + (frees wd (downL W W)).length = W := by
  refine ⟨?_, fun x => ?_, ?_⟩
  · unfold frees
    rw [List.pairwise_map]
    exact ((downL_fall W).filter _).imp fun h => by omega
  · unfold frees
    rw [List.mem_map]
    constructor
    · rintro ⟨i, hi, rfl⟩
      rw [List.mem_filter, downL_mem] at hi
      obtain ⟨h1, h2⟩ := hi
      have h2 : wd i = 0 := by simpa using h2
      exact ⟨by omega, by omega, fun q => (inn i h1).2 q h2⟩
    · rintro ⟨h1, h2, h3⟩
      obtain ⟨i, rfl⟩ : ∃ i, x = i + 2 := ⟨x - 2, by omega⟩
      refine ⟨i, List.mem_filter.2 ⟨downL_mem.2 (by omega), ?_⟩, rfl⟩
      have : wd i = 0 := Classical.byContradiction fun q => h3 ((inn i (by omega)).1 q)
      simpa using this
  · have e1 : M.hs.length = ((List.range W).filter fun i => decide (¬ wd i = 0)).length := by
      have e : M.hs.length = (M.hs.map fun x => x - 2).length := by rw [List.length_map]
      rw [e]
      refine Nat.le_antisymm (len_sub ?_ fun i hi => ?_) (len_sub (List.nodup_range.filter _) fun i hi => ?_)
      · show List.Pairwise _ _
        rw [List.pairwise_map]
        refine List.Pairwise.imp_of_mem ?_ o.sorted
        intro a b ha hb h
        have := (o.range a ha).1
        have := (o.range b hb).1
        omega
      · obtain ⟨x, hx, rfl⟩ := List.mem_map.1 hi
        have h1 := (o.range x hx).1
        have h2 := top x hx
        rw [List.mem_filter]
        refine ⟨List.mem_range.2 (by omega), ?_⟩
        rw [decide_eq_true_iff]
        exact (inn (x - 2) (by omega)).2 (by rw [show x - 2 + 2 = x by omega]; exact hx)
      · rw [List.mem_filter] at hi
        have h1 := List.mem_range.1 hi.1
        have h2 : ¬ wd i = 0 := by simpa using hi.2
        exact List.mem_map.2 ⟨i + 2, (inn i h1).1 h2, by omega⟩
    have e2 : (frees wd (downL W W)).length = ((List.range W).filter fun i => decide (wd i = 0)).length := by
      unfold frees
      rw [List.length_map]
      exact Nat.le_antisymm (len_sub (((downL_fall W).imp fun h => by omega : (downL W W).Nodup).filter _) fun i hi => by
        rw [List.mem_filter] at hi ⊢
        exact ⟨List.mem_range.2 (downL_mem.1 hi.1), hi.2⟩) (len_sub (List.nodup_range.filter _) fun i hi => by
        rw [List.mem_filter] at hi ⊢
        exact ⟨downL_mem.2 (List.mem_range.1 hi.1), hi.2⟩)
    rw [e1, e2]
    have h2 : ∀ l : List Nat, (l.filter fun i => decide (¬ wd i = 0)).length + (l.filter fun i => decide (wd i = 0)).length = l.length := fun l => by
      induction l with
      | nil => rfl
      | cons a l ih =>
        by_cases z : wd a = 0
        · rw [List.filter_cons_of_neg (by simp [z]), List.filter_cons_of_pos (by simp [z]), List.length_cons, List.length_cons]
          omega
        · rw [List.filter_cons_of_pos (by simp [z]), List.filter_cons_of_neg (by simp [z]), List.length_cons, List.length_cons]
          omega
    rw [h2, List.length_range]
end Go.Proofs.YteickckgljlacaaGreat.Mk
