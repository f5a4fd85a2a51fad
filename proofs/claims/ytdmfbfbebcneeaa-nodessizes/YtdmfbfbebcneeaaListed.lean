/-
  A drawn statement, by an invariant that may speak of what has come up so far.
-/
import Derived.Test.YtdmfbfbebcneeaaRule
namespace Go.Proofs.Ytdmfbfbebcneeaa
open Go Go.RowKit

section
variable {P : Program} {ops : Array Oper} {Q : Exit → Act → World → Prop}
/-- What has come up is closed under what it waits for. -/
def ClosedL (ops : Array Oper) (listed : Array Bool) : Prop := ∀ j o, listed.getD j false = true → ops[j]? = some o → ∀ e ∈ o.after, Region.binds .any e = true → listed.getD e.on false = true
theorem wpAny_listed (G : Array Bool → Act → World → Prop) (hw : waitsBack ops = true)
    (step : ∀ listed i o a w, ops[i]? = some o → listed.size = ops.size → listed.getD i false = false → (∀ e ∈ o.after, Region.binds .any e = true → listed.getD e.on false = true) → ClosedL ops listed → G listed a w → wpOp P ops Q i (fun a' w' => G (listed.setIfInBounds i true) a' w') a w)
    (done : ∀ listed a w, (∀ i, i < ops.size → listed.getD i false = true) → G listed a w → Q .normal a w) :
    ∀ (fuel : Nat) (listed : Array Bool) (a : Act) (w : World), listed.size = ops.size → (toCome ops.size listed).length ≤ fuel → ClosedL ops listed → G listed a w → wpAny P .any ops Q fuel listed a w := by
  intro fuel
  induction fuel with
  | zero =>
    intro listed a w hn hc _ hG
    have hr : Region.ready .any ops listed = [] := by
      cases hr : Region.ready .any ops listed with
      | nil => rfl
      | cons i rs =>
        have hi : i ∈ Region.ready .any ops listed := by rw [hr]; exact List.mem_cons_self
        obtain ⟨h1, o, ho, _⟩ := mem_ready.1 hi
        have := toCome_set hn h1
        omega
    exact ⟨hr, done listed a w (ready_some hw hn hr) hG⟩
  | succ fuel ih =>
    intro listed a w hn hc hL hG
    refine ⟨fun hr => done listed a w (ready_some hw hn hr) hG, fun i hi => ?_⟩
    obtain ⟨h1, o, ho, h2⟩ := mem_ready.1 hi
    have hil : listed.getD i false = false := by
      have hlt : i < listed.size := by rw [hn]; exact (Array.getElem?_eq_some_iff.1 ho).1
      simp [hlt] at h1 ⊢
      exact h1
    refine wpOp_mono (fun a' w' g => ?_) (step listed i o a w ho hn hil h2 hL hG)
    refine ih _ a' w' (by simpa using hn) ?_ ?_ g
    · have := toCome_set hn h1
      omega
    · intro j o' hj ho' ed hed hb
      by_cases e : i = j
      · subst e
        obtain rfl : o = o' := Option.some.inj (ho.symm.trans ho')
        exact getD_set_true (h2 ed hed hb)
      · rw [getD_set_ne false e] at hj
        exact getD_set_true (hL j o' hj ho' ed hed hb)
theorem wp_region_listed {id : Nat} {a : Act} {w : World} (hm : P.follows .mixedOrders = true) (G : Array Bool → Act → World → Prop) (hw : waitsBack ops = true)
    (step : ∀ listed i o a w, ops[i]? = some o → listed.size = ops.size → listed.getD i false = false → (∀ e ∈ o.after, Region.binds .any e = true → listed.getD e.on false = true) → ClosedL ops listed → G listed a w → wpOp P ops Q i (fun a' w' => G (listed.setIfInBounds i true) a' w') a w)
    (done : ∀ listed a w, (∀ i, i < ops.size → listed.getD i false = true) → G listed a w → Q .normal a w)
    (start : G (Array.replicate ops.size false) a w.drew) : (Code.region id ops true).wp P Q a w := by
  refine wp_region_any hm ?_
  change wpAny _ _ _ _ _ _ _ w.drew
  refine wpAny_listed G hw step done ops.size _ a w.drew (by simp) ?_ (fun j o hj => ?_) start
  · unfold toCome
    have := List.length_filter_le (fun j => !(Array.replicate ops.size false).getD j true) (List.range ops.size)
    simpa using this
  · by_cases h : j < ops.size <;> simp [h] at hj
/-- An operation without a guard. -/
theorem wpOp_plain {i : Nat} {o : Oper} {a : Act} {w : World} {K : Act → World → Prop} (ho : ops[i]? = some o) (hg : o.guard = none) (h : o.wp P a w K Q) : wpOp P ops Q i K a w := by
  have hwant : Region.wanted o (yielded ops a.tmps) = true := by simp [Region.wanted, hg]
  unfold wpOp
  rw [ho]
  simp only [hwant, if_true]
  exact .inl h
end
end Go.Proofs.Ytdmfbfbebcneeaa
