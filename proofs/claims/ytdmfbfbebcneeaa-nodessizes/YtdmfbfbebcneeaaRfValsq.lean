/-
  A statement whose operations stand in one order, each of which leaves one value, guarded ones among them.
-/
import Derived.Test.YtdmfbfbebcneeaaRfVals
namespace Go.Proofs.Ytdmfbfbebcneeaa.Rf
open Go Go.RowKit

/-- Every operation waits for earlier ones alone, as far as it must. -/
def waitsBackQ (ops : Array Oper) : Bool := (List.range ops.size).all fun i => ((ops[i]?).map (·.after.all fun e => !Region.binds .any e || decide (e.on < i))).getD true

section
variable {P : Program} {ops : Array Oper} {Q : Exit → Act → World → Prop} {S : World → Prop} {a0 : Act} {D : List Tmp} {ks : List (Tmp × Value)}

theorem waits_of (hw : waitsBackQ ops = true) {i : Nat} {o : Oper} (ho : ops[i]? = some o) : ∀ e ∈ o.after, Region.binds .any e = true → e.on < i := by
  intro e he hb
  have hi : i < ops.size := (Array.getElem?_eq_some_iff.1 ho).1
  have h1 := List.all_eq_true.1 hw i (List.mem_range.2 hi)
  rw [ho] at h1
  simp only [Option.map_some, Option.getD_some, Array.all_eq_true_iff_forall_mem] at h1
  have h2 := h1 e he
  rw [hb] at h2
  simpa using h2

theorem vals_from (hw : waitsBackQ ops = true) (hlen : ks.length = ops.size) (hD : (ks.map (·.1)).Nodup) (hlt' : ∀ (i : Nat) (k : Tmp × Value), ks[i]? = some k → k.1 < a0.tmps.size)
    (hok : ∀ i k, ks[i]? = some k → VOk P ops Q S a0 (ks.map (·.1)) ks i k)
    (done : ∀ w, S w → Q .normal (vfin ks a0) w) :
    ∀ (g m : Nat) (a : Act) (w : World), m + g = ops.size → Steady S a0 (ks.map (·.1)) a w → (∀ j, j < m → ∀ k : Tmp × Value, ks[j]? = some k → slot a k.1 = k.2) → wpOps P ops Q (List.range' m g) a w := by
  have hmem : ∀ (i : Nat) (k : Tmp × Value), ks[i]? = some k → k.1 ∈ ks.map (·.1) := fun i k hk => List.mem_map.2 ⟨k, List.mem_of_getElem? hk, rfl⟩
  have sameAt : ∀ (i j : Nat) (x y : Tmp × Value), ks[i]? = some x → ks[j]? = some y → x.1 = y.1 → i = j := fun i j x y hi hj e => by
    refine nodup_place (fun k : Tmp × Value => some k.1) ks ?_ i j x y x.1 hi hj rfl (congrArg some e.symm)
    have : ks.filterMap (fun k : Tmp × Value => some k.1) = ks.map (·.1) := by rw [← List.filterMap_eq_map]; rfl
    rw [this]; exact hD
  intro g
  induction g with
  | zero =>
    intro m a w hm hG hP
    have hfin : a = vfin ks a0 := by
      refine vact_fin ks a0 a hD hG.size hG.defers hG.other fun k hk => ?_
      obtain ⟨i, hi⟩ := List.mem_iff_getElem?.1 hk
      have hi' : i < m := by
        have := (List.getElem?_eq_some_iff.1 hi).1
        omega
      exact ⟨hlt' i k hi, hP i hi' k hi⟩
    show Q .normal a w
    rw [hfin]
    exact done w hG.here
  | succ g ih =>
    intro i a w hm hG hP
    have hi : i < ks.length := by omega
    obtain ⟨k, hk⟩ : ∃ k, ks[i]? = some k := ⟨_, List.getElem?_eq_getElem hi⟩
    obtain ⟨o, ho, hdst, hrest⟩ := hok i k hk
    have hds : k.1 < a.tmps.size := by rw [hG.size]; exact hlt' i k hk
    have hleft : Left ks o a := fun e he hb k' hk' => hP e.on (waits_of hw ho e he hb) k' hk'
    have fine : ∀ w', S w' → wpOps P ops Q (List.range' (i + 1) g) (a.put (some k.1) k.2) w' := by
      intro w' hw'
      refine ih (i + 1) _ w' (by omega) (hG.put hw' (hmem i k hk) k.2) fun j hj k' hk' => ?_
      by_cases e : j = i
      · subst e
        obtain rfl := Option.some.inj (hk.symm.trans hk')
        exact slot_put_eq _ hds
      · rw [slot_put_ne _ (fun q => e (sameAt j i k' k hk' hk q.symm))]
        exact hP j (by omega) k' hk'
    rw [List.range'_succ, wpOps_cons]
    unfold wpOp
    simp only [ho]
    rcases hrest with ⟨hg, hdo⟩ | ⟨j, b, dj, gb, hg, ⟨e, he, hbe, rfl⟩, hkj, hu, hdo⟩
    · simp only [Region.wanted, hg, if_true]
      exact Or.inl (hdo a w hG hleft _ fine)
    · obtain ⟨oj, hoj, hdj, _⟩ := hok e.on _ hkj
      have hy : yielded ops a.tmps e.on = some gb := yielded_of hoj hdj (by rw [hG.size]; exact hlt' _ _ hkj) (hleft e he hbe _ hkj)
      by_cases hgb : gb = b
      · subst hgb
        simp only [Region.wanted, hg, hy, beq_self_eq_true, if_true]
        exact Or.inl (hdo rfl a w hG hleft _ fine)
      · have : (some gb == some b) = false := by simpa using hgb
        simp only [Region.wanted, hg, hy, this]
        have := fine w hG.here
        rw [hu hgb] at this
        rw [hdst]
        exact this

theorem wp_region_valsq {id : Nat} {w0 : World} (S : World → Prop) (ks : List (Tmp × Value)) (D : List Tmp) (n : Nat) (hw : waitsBackQ ops = true) (hlen : ks.length = ops.size)
    (eD : ks.map (·.1) = D) (hD : D.Nodup) (hn : a0.tmps.size = n) (hlt : (D.all fun d => decide (d < n)) = true) (hS : S w0)
    (hok : ∀ i k, ks[i]? = some k → VOk P ops Q S a0 D ks i k)
    (done : ∀ w, S w → Q .normal (vfin ks a0) w) :
    (Code.region id ops false).wp P Q a0 w0 := by
  subst eD hn
  refine wp_region ?_
  rw [List.range_eq_range']
  exact vals_from hw hlen hD (fun i k hk => by simpa using List.all_eq_true.1 hlt k.1 (List.mem_map.2 ⟨k, List.mem_of_getElem? hk, rfl⟩)) hok done ops.size 0 a0 w0 (by omega) ⟨rfl, rfl, fun _ _ => rfl, hS⟩ (fun j hj => absurd hj (Nat.not_lt_zero j))
/-- The value of a guarded operation. -/
def gval (e b : Bool) (v : Value) : Value := if e = b then v else undef
theorem gval_pos {e b : Bool} {v : Value} (h : e = b) : gval e b v = v := if_pos h
theorem gval_neg {e b : Bool} {v : Value} (h : e ≠ b) : gval e b v = undef := if_neg h
theorem does_if {e b : Bool} (hc : e = b) {o : Oper} {d : Tmp} {v : Value} (h : Does P Q S a0 D ks o (d, v)) : Does P Q S a0 D ks o (d, gval e b v) := by
  rw [gval_pos hc]
  exact h
theorem pick_and {e x : Bool} {vx vy : Value} (hx : vx = gval e true (.bool x)) (hy : vy = .bool false) : (if e then vx else vy) = .bool (e && x) := by
  subst hx hy
  cases e <;> rfl
theorem pick_or {e y : Bool} {vx vy : Value} (hx : vx = .bool true) (hy : vy = gval e false (.bool y)) : (if e then vx else vy) = .bool (e || y) := by
  subst hx hy
  cases e <;> rfl
end
end Go.Proofs.Ytdmfbfbebcneeaa.Rf
