/-
  What the nodes of a function just made hang on: which levels have none.
-/
import Derived.Test.YteickckgljlacaaGreatSwP
import Derived.Test.YteickckgljlacaaGreatLgc
namespace Go.Proofs.YteickckgljlacaaGreat.Sw
open Go Go.RowKit
open Rf (fixAt fixF)

/-- A function that a variable doesn't turn. -/
def Indep (u : Nat) (F : Nat → Bool) : Prop := Eqt (fixF F u false) (fixF F u true)
theorem Indep.congr {u : Nat} (hu : u < 8) {F G : Nat → Bool} (e : Eqt F G) (h : Indep u F) : Indep u G :=
  ((fixF_congr e hu false).symm.trans h).trans (fixF_congr e hu true)
theorem fix_fix {x u v : Nat} (hx : x < 256) (hu : u < 8) (hv : v < 8) (ne : u ≠ v) (b c : Bool) : fixAt v b (fixAt u c x) = fixAt u c (fixAt v b x) := by
  have hux := fixAt_bits hx hu c
  have hvx := fixAt_bits hx hv b
  refine Nat.eq_of_testBit_eq fun j => ?_
  rw [(fixAt_bits hux.1 hv b).2, hux.2, (fixAt_bits hvx.1 hu c).2, hvx.2]
  unfold Mdl.setA
  by_cases h1 : j = v
  · rw [if_pos h1, if_neg (by omega), if_pos h1]
  · rw [if_neg h1]
    by_cases h2 : j = u
    · rw [if_pos h2, if_pos h2]
    · rw [if_neg h2, if_neg h2, if_neg h1]
theorem fix_over {x u : Nat} (hx : x < 256) (hu : u < 8) (b c : Bool) : fixAt u b (fixAt u c x) = fixAt u b x := by
  have hux := fixAt_bits hx hu c
  refine Nat.eq_of_testBit_eq fun j => ?_
  rw [(fixAt_bits hux.1 hu b).2, hux.2, (fixAt_bits hx hu b).2]
  unfold Mdl.setA
  by_cases h1 : j = u
  · rw [if_pos h1, if_pos h1]
  · rw [if_neg h1, if_neg h1, if_neg h1]
theorem Indep.own {u : Nat} (hu : u < 8) (F : Nat → Bool) (b : Bool) : Indep u (fixF F u b) := fun x hx => by
  show F (fixAt u b (fixAt u false x)) = F (fixAt u b (fixAt u true x))
  rw [fix_over hx hu, fix_over hx hu]
theorem Indep.fix {u v : Nat} (hu : u < 8) (hv : v < 8) {F : Nat → Bool} (h : Indep u F) (b : Bool) : Indep u (fixF F v b) := by
  by_cases e : u = v
  · subst e; exact Indep.own hu F b
  · intro x hx
    show F (fixAt v b (fixAt u false x)) = F (fixAt v b (fixAt u true x))
    rw [fix_fix hx hu hv e, fix_fix hx hu hv e]
    exact h _ (fixAt_bits hx hv b).1
theorem subs_indep {u : Nat} (hu : u < 8) {v : Nat → Nat} : ∀ {d k : Nat} {F G : Nat → Bool}, (∀ i, k ≤ i → i < k + d → v i < 8) → Indep u F → Subs v d k F G → Indep u G
  | 0, _, _, _, _, _, s => s.elim
  | d + 1, k, F, G, hv, h, ⟨_, s⟩ => by
    have hk := hv k (Nat.le_refl k) (by omega)
    have hv' : ∀ i, k + 1 ≤ i → i < k + 1 + d → v i < 8 := fun i h1 h2 => hv i (by omega) (by omega)
    rcases s with ⟨_, s⟩ | ⟨_, e | s | s⟩
    · exact subs_indep hu hv' (h.fix hu hk false) s
    · exact h.congr hu e
    · exact subs_indep hu hv' (h.fix hu hk false) s
    · exact subs_indep hu hv' (h.fix hu hk true) s
section
variable {M M' : Mdl} {F : Nat → Bool} {x k : Nat}
/-- A node hangs on the variable of its level. -/
theorem node_hangs (o : M.Ok) {h : Nat} (hm : h ∈ M.hs) : ¬ Indep (M.v (M.nd h).1) (M.tbl h) := fun i => by
  have e := ((tbl_lo o hm).trans i).trans (tbl_hi o hm).symm
  exact o.ne h hm ((Mdl.one_iff o (o.lo h hm).1 (o.hi h hm).1).1 e)
theorem atLev_one (o : M.Ok) (hx : x ∈ M.hs) (e : (M.nd x).1 = k) (h : ∀ y ∈ M.hs, (M.nd y).1 = k → y = x) : atLev M k = 1 := by
  unfold atLev
  refine Nat.le_antisymm (nodup_le _ [x] (o.nodup.filter _) fun y hy => ?_) (nodup_le [x] _ (by simp) fun y hy => ?_)
  · rw [List.mem_filter, decide_eq_true_eq] at hy
    rw [List.mem_singleton]
    exact h y hy.1 hy.2
  · rw [List.mem_singleton] at hy
    subst hy
    exact List.mem_filter.2 ⟨hx, decide_eq_true e⟩
/-- On its own level there is the function's node alone. -/
theorem made_one (o : M.Ok) (o' : M'.Ok) (m : MadeIs M 0 F x M') (no : M.hs = []) (i : ¬ Indep (M.v 0) F) : atLev M' 0 = 1 := by
  have n8 := o.le8
  have n1 := o.pos
  have v8 : ∀ i, i < M.n → M.v i < 8 := fun i hi => by have := o.vlt i hi; omega
  have lev : M'.lev x = 0 := by
    rcases Nat.eq_zero_or_pos (M'.lev x) with e | e
    · exact e
    · exfalso
      refine i ?_
      have t := fun b => tbl_fix o' m.node e (by rw [m.grew.n]; exact n1) b
      rw [m.grew.v] at t
      exact Indep.congr (v8 0 n1) m.tbl ((t false).trans (t true).symm)
  have hx : x ∈ M'.hs := Mdl.inner_of_lev m.node (by rw [lev, m.grew.n]; exact n1)
  rw [Mdl.lev_in o' hx] at lev
  refine atLev_one o' hx lev fun y hy e => ?_
  have q := (m.subs (M'.tbl y)).1 ⟨y, hy, Eqt.refl _⟩
  rcases q with ⟨g, hg, _⟩ | q
  · rw [no] at hg; cases hg
  · rw [show M.n - 0 = (M.n - 1) + 1 by omega] at q
    have hv' : ∀ i, 0 + 1 ≤ i → i < 0 + 1 + (M.n - 1) → M.v i < 8 := fun i _ hi => v8 i (by omega)
    have no' : ∀ b, ¬ Subs M.v (M.n - 1) (0 + 1) (fixF F (M.v 0) b) (M'.tbl y) := fun b s => by
      refine node_hangs o' hy ?_
      rw [e, m.grew.v]
      exact subs_indep (v8 0 n1) hv' (Indep.own (v8 0 n1) F b) s
    rcases q.2 with ⟨_, s⟩ | ⟨_, s | s | s⟩
    · exact absurd s (no' false)
    · exact (Mdl.one_iff o' (.inr hy) m.node).1 (s.symm.trans m.tbl.symm)
    · exact absurd s (no' false)
    · exact absurd s (no' true)
end
end Go.Proofs.YteickckgljlacaaGreat.Sw
