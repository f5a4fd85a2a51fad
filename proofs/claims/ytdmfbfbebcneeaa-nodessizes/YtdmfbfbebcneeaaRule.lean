/-
  A statement whose order Go leaves open, walked operation by operation: what each operation leaves behind, whatever came before it beyond what it waits for.
-/
import Derived.WalkKit
import Derived.Orders
import Derived.RegionTactic
import Derived.Test.YtdmfbfbebcneeaaProg
namespace Go.Proofs.Ytdmfbfbebcneeaa
open Go Go.RowKit

section
variable {P : Program} {ops : Array Oper} {Q : Exit → Act → World → Prop}

/-- The operations that are still to come. -/
def toCome (n : Nat) (listed : Array Bool) : List Nat := (List.range n).filter fun j => !listed.getD j true

theorem toCome_set {n i : Nat} {listed : Array Bool} (hn : listed.size = n) (hi : listed.getD i true = false) : (toCome n (listed.setIfInBounds i true)).length < (toCome n listed).length := by
  have hlt : i < listed.size := by
    rcases Nat.lt_or_ge i listed.size with h | h
    · exact h
    · simp [Array.getElem?_eq_none h] at hi
  have e : toCome n (listed.setIfInBounds i true) = (toCome n listed).filter fun j => decide (j ≠ i) := by
    unfold toCome
    rw [List.filter_filter]
    apply List.filter_congr
    intro j _
    by_cases h : i = j
    · subst h; simp [hlt]
    · rw [getD_set_ne true h]
      have : j ≠ i := fun e => h e.symm
      simp [this]
  rw [e, List.length_filter_lt_length_iff_exists]
  refine ⟨i, ?_, by simp⟩
  unfold toCome
  rw [List.mem_filter, List.mem_range]
  exact ⟨by omega, by rw [hi]; rfl⟩

/-- Every operation waits for earlier ones alone. -/
def waitsBack (ops : Array Oper) : Bool := (List.range ops.size).all fun i => ((ops[i]?).map (·.after.all fun e => decide (e.on < i))).getD true

theorem ready_some {listed : Array Bool} (hw : waitsBack ops = true) (hn : listed.size = ops.size) (h : Region.ready .any ops listed = []) : ∀ j, j < ops.size → listed.getD j false = true := by
  intro j
  induction j using Nat.strongRecOn with
  | _ j ih =>
    intro hj
    by_cases hl : listed.getD j true = false
    · have ho : ops[j]? = some ops[j] := Array.getElem?_eq_getElem hj
      have : j ∈ Region.ready .any ops listed := by
        rw [mem_ready]
        refine ⟨hl, _, ho, fun e he _ => ?_⟩
        have h1 := List.all_eq_true.1 hw j (List.mem_range.2 hj)
        rw [ho] at h1
        simp only [Option.map_some, Option.getD_some, Array.all_eq_true_iff_forall_mem, decide_eq_true_eq] at h1
        have h2 := h1 e he
        exact ih e.on h2 (by omega)
      rw [h] at this
      cases this
    · have hlt : j < listed.size := by omega
      simp [hlt] at hl ⊢
      exact hl

end

/-! ### The rule of Posts, with what is listed closed under what it waits for -/
section
variable {P : Program} {ops : Array Oper} {Q : Exit → Act → World → Prop}
theorem wpAny_posts' (G : Act → World → Prop) (Post : Nat → Act → World → Prop) (hw : waitsBack ops = true)
    (step : ∀ i o a w, ops[i]? = some o → G a w → (∀ e ∈ o.after, Region.binds .any e = true → Post e.on a w) → wpOp P ops Q i (fun a' w' => G a' w' ∧ Post i a' w' ∧ ∀ j o', j ≠ i → ops[j]? = some o' → (∀ e ∈ o'.after, Region.binds .any e = true → e.on ≠ i) → Post j a w → Post j a' w') a w)
    (done : ∀ a w, G a w → (∀ i, i < ops.size → Post i a w) → Q .normal a w) :
    ∀ (fuel : Nat) (listed : Array Bool) (a : Act) (w : World), listed.size = ops.size → (toCome ops.size listed).length ≤ fuel → G a w → (∀ j, listed.getD j false = true → Post j a w) → (∀ j o, listed.getD j false = true → ops[j]? = some o → ∀ e ∈ o.after, Region.binds .any e = true → listed.getD e.on false = true) → wpAny P .any ops Q fuel listed a w := by
  intro fuel
  induction fuel with
  | zero =>
    intro listed a w hn hc hG hP _
    have hr : Region.ready .any ops listed = [] := by
      cases hr : Region.ready .any ops listed with
      | nil => rfl
      | cons i rs =>
        have hi : i ∈ Region.ready .any ops listed := by rw [hr]; exact List.mem_cons_self
        obtain ⟨h1, o, ho, _⟩ := mem_ready.1 hi
        have := toCome_set hn h1
        omega
    exact ⟨hr, done a w hG fun i hi => hP i (ready_some hw hn hr i hi)⟩
  | succ fuel ih =>
    intro listed a w hn hc hG hP hL
    refine ⟨fun hr => done a w hG fun i hi => hP i (ready_some hw hn hr i hi), fun i hi => ?_⟩
    obtain ⟨h1, o, ho, h2⟩ := mem_ready.1 hi
    have hil : listed.getD i false = false := by
      have hlt : i < listed.size := by rw [hn]; exact (Array.getElem?_eq_some_iff.1 ho).1
      simp [hlt] at h1 ⊢
      exact h1
    refine wpOp_mono (fun a' w' ⟨g, p, k⟩ => ?_) (step i o a w ho hG fun e he hb => hP _ (h2 e he hb))
    refine ih _ a' w' (by simpa using hn) ?_ g ?_ ?_
    · have := toCome_set hn h1
      omega
    · intro j hj
      by_cases e : i = j
      · subst e; exact p
      · rw [getD_set_ne false e] at hj
        have hjo : ∃ o', ops[j]? = some o' := by
          have hlt : j < listed.size := by
            rcases Nat.lt_or_ge j listed.size with h | h
            · exact h
            · simp [Array.getElem?_eq_none h] at hj
          exact ⟨_, Array.getElem?_eq_getElem (by omega)⟩
        obtain ⟨o', ho'⟩ := hjo
        refine k j o' (fun h => e h.symm) ho' (fun ed hed hb heq => ?_) (hP j hj)
        have := hL j o' hj ho' ed hed hb
        rw [heq, hil] at this
        cases this
    · intro j o' hj ho' ed hed hb
      by_cases e : i = j
      · subst e
        obtain rfl : o = o' := Option.some.inj (ho.symm.trans ho')
        exact getD_set_true (h2 ed hed hb)
      · rw [getD_set_ne false e] at hj
        exact getD_set_true (hL j o' hj ho' ed hed hb)
end

def slot (a : Act) (s : Tmp) : Value := a.tmps.getD s undef
theorem slot_put_eq {a : Act} {d : Tmp} (v : Value) (h : d < a.tmps.size) : slot (a.put (some d) v) d = v := by
  simp [slot, Act.put, h]
theorem slot_put_ne {a : Act} {d s : Tmp} (v : Value) (h : d ≠ s) : slot (a.put (some d) v) s = slot a s := by
  simp [slot, Act.put, Array.getElem?_setIfInBounds_ne h]

theorem nodup_place {α β : Type} (f : α → Option β) : ∀ (l : List α), (l.filterMap f).Nodup → ∀ (i j : Nat) (x y : α) (b : β), l[i]? = some x → l[j]? = some y → f x = some b → f y = some b → i = j
  | [], _, i, _, _, _, _, h, _, _, _ => by simp at h
  | z :: l, hn, i, j, x, y, b, hi, hj, hx, hy => by
    have mem : ∀ (k : Nat) (u : α), l[k]? = some u → f u = some b → b ∈ l.filterMap f := fun k u hk hu => List.mem_filterMap.2 ⟨u, List.mem_of_getElem? hk, hu⟩
    cases hz : f z with
    | none =>
      rw [List.filterMap_cons_none hz] at hn
      cases i with
      | zero => simp at hi; subst hi; rw [hz] at hx; cases hx
      | succ i =>
        cases j with
        | zero => simp at hj; subst hj; rw [hz] at hy; cases hy
        | succ j => rw [nodup_place f l hn i j x y b (by simpa using hi) (by simpa using hj) hx hy]
    | some c =>
      rw [List.filterMap_cons_some hz, List.nodup_cons] at hn
      cases i with
      | zero =>
        simp at hi
        subst hi
        cases j with
        | zero => rfl
        | succ j =>
          rw [hz] at hx
          obtain rfl := Option.some.inj hx
          exact absurd (mem j y (by simpa using hj) hy) hn.1
      | succ i =>
        cases j with
        | zero =>
          simp at hj
          subst hj
          rw [hz] at hy
          obtain rfl := Option.some.inj hy
          exact absurd (mem i x (by simpa using hi) hx) hn.1
        | succ j => rw [nodup_place f l hn.2 i j x y b (by simpa using hi) (by simpa using hj) hx hy]


theorem act_ext {a b : Act} (h1 : a.tmps.size = b.tmps.size) (h2 : a.defers = b.defers) (h3 : ∀ s, slot a s = slot b s) : a = b := by
  cases a with | mk at' ad => cases b with | mk bt bd =>
  simp only at h1 h2
  subst h2
  congr 1
  apply Array.ext h1
  intro i hi hj
  have := h3 i
  simpa [slot, hi, hj] using this
/-- A drawn statement of operations that each leave a value: what is told of each value is kept by all that lays new memory. -/
theorem wp_region_pr {P : Program} {ops : Array Oper} {Q : Exit → Act → World → Prop} {id : Nat} {a : Act} {w : World} (hm : P.follows .mixedOrders = true) (hw : waitsBack ops = true) (sl : Nat → Tmp) (pr : Nat → Value → World → Prop)
    (mono : ∀ i v w w', Below w.heap.size w w' → pr i v w → pr i v w')
    (dst : ∀ i o, ops[i]? = some o → o.dst = some (sl i) ∧ o.guard = none)
    (inj : ∀ i j, i < ops.size → j < ops.size → sl i = sl j → i = j) (lt : ∀ i, i < ops.size → sl i < a.tmps.size)
    (step : ∀ i o a' w', ops[i]? = some o → (∀ s, (∀ j, j < ops.size → sl j ≠ s) → slot a' s = slot a s) → Below w.heap.size w.drew w' → (∀ e ∈ o.after, Region.binds .any e = true → pr e.on (slot a' (sl e.on)) w') → ∀ K : Act → World → Prop, (∀ v w'', Below w'.heap.size w' w'' → pr i v w'' → K (a'.put o.dst v) w'') → o.wp P a' w' K Q)
    (done : ∀ a' w', a'.defers = a.defers → (∀ s, (∀ j, j < ops.size → sl j ≠ s) → slot a' s = slot a s) → Below w.heap.size w.drew w' → (∀ i, i < ops.size → pr i (slot a' (sl i)) w') → Q .normal a' w') : (Code.region id ops true).wp P Q a w := by
  refine wp_region_any hm ?_
  change wpAny _ _ _ _ _ _ _ w.drew
  refine wpAny_posts' (fun a' w' => a'.tmps.size = a.tmps.size ∧ a'.defers = a.defers ∧ (∀ s, (∀ j, j < ops.size → sl j ≠ s) → slot a' s = slot a s) ∧ Below w.heap.size w.drew w') (fun i a' w' => i < ops.size → pr i (slot a' (sl i)) w') hw ?_ ?_ ops.size (Array.replicate ops.size false) a w.drew (by simp) ?_ ⟨rfl, rfl, fun _ _ => rfl, Below.refl _ _⟩ (fun j hj => ?_) (fun j o hj => ?_)
  · intro i o a' w' ho ⟨g1, g2, g3, g4⟩ hdep
    have hi : i < ops.size := (Array.getElem?_eq_some_iff.1 ho).1
    obtain ⟨hd, hg⟩ := dst i o ho
    have hwant : Region.wanted o (yielded ops a'.tmps) = true := by simp [Region.wanted, hg]
    have hlt : sl i < a'.tmps.size := by rw [g1]; exact lt i hi
    unfold wpOp
    rw [ho]
    simp only [hwant, if_true]
    refine .inl (step i o a' w' ho g3 g4 (fun e he hb => hdep e he hb ?_) _ fun v w'' hB hp => ⟨⟨?_, ?_, ?_, ?_⟩, ?_, ?_⟩)
    · have h1 := hw
      unfold waitsBack at h1
      rw [List.all_eq_true] at h1
      have h2 := h1 i (List.mem_range.2 hi)
      rw [ho] at h2
      simp only [Option.map_some, Option.getD_some] at h2
      rw [Array.all_eq_true] at h2
      obtain ⟨k, hk, rfl⟩ := Array.mem_iff_getElem.1 he
      have := of_decide_eq_true (h2 k hk)
      omega
    · rw [hd]; simp [Act.put, g1]
    · rw [hd]; simp [Act.put, g2]
    · intro s hs
      rw [hd, slot_put_ne _ (hs i hi)]
      exact g3 s hs
    · exact g4.trans ⟨hB.os, hB.tape, hB.output, hB.size, fun k hk => hB.block k (Nat.lt_of_lt_of_le hk g4.size)⟩
    · intro _
      rw [hd, slot_put_eq _ hlt]
      exact hp
    · intro j o' hji _ _ hp' hj
      rw [hd, slot_put_ne _ (fun e => hji (inj j i hj hi e.symm))]
      exact mono j _ _ _ hB (hp' hj)
  · rintro a' w' ⟨g1, g2, g3, g4⟩ hp
    exact done a' w' g2 g3 g4 fun i hi => hp i hi hi
  · unfold toCome
    have := List.length_filter_le (fun j => !(Array.replicate ops.size false).getD j true) (List.range ops.size)
    simpa using this
  · by_cases h : j < ops.size <;> simp [h] at hj
  · by_cases h : j < ops.size <;> simp [h] at hj
end Go.Proofs.Ytdmfbfbebcneeaa
