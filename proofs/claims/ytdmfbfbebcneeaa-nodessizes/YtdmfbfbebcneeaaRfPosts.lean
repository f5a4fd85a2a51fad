/-
  A statement whose order Go leaves open, walked operation by operation: what each operation leaves behind, whatever came before it beyond what it waits for.
-/
import Derived.WalkKit
import Derived.Orders
import Derived.RegionTactic
namespace Go.Proofs.Ytdmfbfbebcneeaa.Rf
open Go

section
variable {P : Program} {ops : Array Oper} {Q : Exit → Act → World → Prop}

/-- The operations that are still to come. -/
def toCome (n : Nat) (listed : Array Bool) : List Nat := (List.range n).filter fun j => !listed.getD j true

theorem toCome_set {n i : Nat} {listed : Array Bool} (hn : listed.size = n) (hi : listed.getD i true = false) : (toCome n (listed.setIfInBounds i true)).length < (toCome n listed).length := by
  have hlt : i < listed.size := by
    rcases Nat.lt_or_ge i listed.size with h | h
    · exact h
    · simp [Array.getElem?_eq_none h] at hi
  have e : toCome n (listed.setIfInBounds i true) = (toCome n listed).filter fun j => decide (j ≠ i) := by
    unfold toCome
    rw [List.filter_filter]
    apply List.filter_congr
    intro j _
    by_cases h : i = j
    · subst h; simp [hlt]
    · rw [getD_set_ne true h]
      have : j ≠ i := fun e => h e.symm
      simp [this]
  rw [e, List.length_filter_lt_length_iff_exists]
  refine ⟨i, ?_, by simp⟩
  unfold toCome
  rw [List.mem_filter, List.mem_range]
  exact ⟨by omega, by rw [hi]; rfl⟩

/-- Every operation waits for earlier ones alone. -/
def waitsBack (ops : Array Oper) : Bool := (List.range ops.size).all fun i => ((ops[i]?).map (·.after.all fun e => decide (e.on < i))).getD true

theorem ready_some {listed : Array Bool} (hw : waitsBack ops = true) (hn : listed.size = ops.size) (h : Region.ready .any ops listed = []) : ∀ j, j < ops.size → listed.getD j false = true := by
  intro j
  induction j using Nat.strongRecOn with
  | _ j ih =>
    intro hj
    by_cases hl : listed.getD j true = false
    · have ho : ops[j]? = some ops[j] := Array.getElem?_eq_getElem hj
      have : j ∈ Region.ready .any ops listed := by
        rw [mem_ready]
        refine ⟨hl, _, ho, fun e he _ => ?_⟩
        have h1 := List.all_eq_true.1 hw j (List.mem_range.2 hj)
        rw [ho] at h1
        simp only [Option.map_some, Option.getD_some, Array.all_eq_true_iff_forall_mem, decide_eq_true_eq] at h1
        have h2 := h1 e he
        exact ih e.on h2 (by omega)
      rw [h] at this
      cases this
    · have hlt : j < listed.size := by omega
      simp [hlt] at hl ⊢
      exact hl

/-- THE RULE: 'G': what holds throughout; 'Post i': what operation i has left. -/
theorem wpAny_posts (G : Act → World → Prop) (Post : Nat → Act → World → Prop) (hw : waitsBack ops = true)
    (step : ∀ i o a w, ops[i]? = some o → G a w → (∀ e ∈ o.after, Region.binds .any e = true → Post e.on a w) → wpOp P ops Q i (fun a' w' => G a' w' ∧ Post i a' w' ∧ ∀ j, j ≠ i → Post j a w → Post j a' w') a w)
    (done : ∀ a w, G a w → (∀ i, i < ops.size → Post i a w) → Q .normal a w) :
    ∀ (fuel : Nat) (listed : Array Bool) (a : Act) (w : World), listed.size = ops.size → (toCome ops.size listed).length ≤ fuel → G a w → (∀ j, listed.getD j false = true → Post j a w) → wpAny P .any ops Q fuel listed a w := by
  intro fuel
  induction fuel with
  | zero =>
    intro listed a w hn hc hG hP
    have hr : Region.ready .any ops listed = [] := by
      cases hr : Region.ready .any ops listed with
      | nil => rfl
      | cons i rs =>
        have hi : i ∈ Region.ready .any ops listed := by rw [hr]; exact List.mem_cons_self
        obtain ⟨h1, o, ho, _⟩ := mem_ready.1 hi
        have := toCome_set hn h1
        omega
    exact ⟨hr, done a w hG fun i hi => hP i (ready_some hw hn hr i hi)⟩
  | succ fuel ih =>
    intro listed a w hn hc hG hP
    refine ⟨fun hr => done a w hG fun i hi => hP i (ready_some hw hn hr i hi), fun i hi => ?_⟩
    obtain ⟨h1, o, ho, h2⟩ := mem_ready.1 hi
    refine wpOp_mono (fun a' w' ⟨g, p, k⟩ => ?_) (step i o a w ho hG fun e he hb => hP _ (h2 e he hb))
    refine ih _ a' w' (by simpa using hn) ?_ g ?_
    · have := toCome_set hn h1
      omega
    · intro j hj
      by_cases e : i = j
      · subst e; exact p
      · rw [getD_set_ne false e] at hj
        exact k j (fun h => e h.symm) (hP j hj)

/-- .. at a region. -/
theorem wp_region_posts {id : Nat} {a : Act} {w : World} (hm : P.follows .mixedOrders = true) (G : Act → World → Prop) (Post : Nat → Act → World → Prop) (hw : waitsBack ops = true)
    (step : ∀ i o a w, ops[i]? = some o → G a w → (∀ e ∈ o.after, Region.binds .any e = true → Post e.on a w) → wpOp P ops Q i (fun a' w' => G a' w' ∧ Post i a' w' ∧ ∀ j, j ≠ i → Post j a w → Post j a' w') a w)
    (done : ∀ a w, G a w → (∀ i, i < ops.size → Post i a w) → Q .normal a w) (hG : G a w.drew) : (Code.region id ops true).wp P Q a w := by
  refine wp_region_any hm (wpAny_posts G Post hw step done ops.size _ a _ (by simp) ?_ hG ?_)
  · unfold toCome
    exact Nat.le_trans (List.length_filter_le _ _) (by simp)
  · intro j hj
    simp [Array.getElem?_replicate] at hj
    split at hj <;> simp_all
end

end Go.Proofs.Ytdmfbfbebcneeaa.Rf
