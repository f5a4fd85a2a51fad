/-
  A drawn statement whose operations all read alone, each leaving a value, but for the last, which writes.
-/
import Derived.Test.YteickckgljlacaaGreatSwE
namespace Go.Proofs.YteickckgljlacaaGreat.Sw
open Go Go.RowKit
open Rf (vfin)

/-- What the rule asks of a statement's text, so that it can be reckoned. -/
def shapeE (ops : Array Oper) (D : List Tmp) (par : Nat → Nat) : Bool :=
  (List.range D.length).all (fun i => decide (i < par i) && decide (par i ≤ D.length) && ((ops[par i]?).map fun o => o.after.any fun e => e.on == i && Region.binds .any e).getD false) &&
  ops.all (fun o => o.guard.isNone) && decide (ops.size = D.length + 1)
theorem wp_region_vend {P : Program} {ops : Array Oper} {Q : Exit → Act → World → Prop} {id : Nat} {a : Act} {w : World} (hm : P.follows .mixedOrders = true) (hw : waitsBack ops = true) (ks : List (Tmp × Value)) (D : List Tmp) (eD : ks.map (·.1) = D) (hD : D.Nodup) (n : Nat) (hn : a.tmps.size = n) (hlt : (D.all fun d => decide (d < n)) = true) (R : World → Prop) (par : Nat → Nat) (sh : shapeE ops D par = true)
    (quiet : ∀ (i : Nat) (k : Tmp × Value) (o : Oper) (a' : Act) (u : World), ks[i]? = some k → ops[i]? = some o → Qt w u → (∀ s, s ∉ D → slot a' s = slot a s) → (∀ e ∈ o.after, Region.binds .any e = true → ∀ k' : Tmp × Value, ks[e.on]? = some k' → slot a' k'.1 = k'.2) → ∀ K : Act → World → Prop, (∀ u', (∃ q, u' = u.drewN q) → K (a'.put (some k.1) k.2) u') → o.wp P a' u K Q)
    (last : ∀ (o : Oper) (a' : Act) (u : World), ops[D.length]? = some o → Qt w u → (∀ s, s ∉ D → slot a' s = slot a s) → (∀ (i : Nat) (k : Tmp × Value), ks[i]? = some k → slot a' k.1 = k.2) → ∀ K : Act → World → Prop, (∀ u', R u' → K a' u') → o.wp P a' u K Q)
    (done : ∀ u, R u → Q .normal (vfin ks a) u) : (Code.region id ops true).wp P Q a w := by
  subst eD hn
  obtain ⟨m, hmm⟩ : ∃ m, ks.length = m := ⟨_, rfl⟩
  unfold shapeE at sh
  simp only [Bool.and_eq_true, decide_eq_true_eq, List.all_eq_true, List.mem_range, List.length_map, hmm] at sh
  obtain ⟨⟨s1, s2⟩, s4⟩ := sh
  rw [List.length_map, hmm] at last
  have par1 : ∀ i, i < m → i < par i ∧ par i ≤ m := fun i hi => ⟨(s1 i hi).1.1, (s1 i hi).1.2⟩
  have plain : ∀ (i : Nat) (o : Oper), ops[i]? = some o → o.guard = none := fun i o ho => by
    have h := Array.all_eq_true.1 s2 i (Array.getElem?_eq_some_iff.1 ho).1
    rw [(Array.getElem?_eq_some_iff.1 ho).2] at h
    exact Option.isNone_iff_eq_none.1 h
  have lt' : ∀ d ∈ ks.map (·.1), d < a.tmps.size := fun d hd => by simpa using List.all_eq_true.1 hlt d hd
  have sameAt : ∀ (i j : Nat) (x y : Tmp × Value), ks[i]? = some x → ks[j]? = some y → x.1 = y.1 → i = j := fun i j x y hi hj e =>
    nodup_place (fun k : Tmp × Value => some k.1) ks (by rw [show (fun k : Tmp × Value => some k.1) = (some ∘ (·.1)) from rfl, List.filterMap_eq_map]; exact hD) i j x y x.1 hi hj rfl (by rw [e])
  refine wp_region_listed hm (fun listed a' u => a'.tmps.size = a.tmps.size ∧ a'.defers = a.defers ∧ (∀ s, s ∉ ks.map (·.1) → slot a' s = slot a s) ∧ (∀ (i : Nat) (k : Tmp × Value), ks[i]? = some k → listed.getD i false = true → slot a' k.1 = k.2) ∧ (listed.getD m false = false → Qt w u) ∧ (listed.getD m false = true → R u)) hw ?_ ?_ ?_
  · rintro listed i o a' u ho hnl hi hdep hcl ⟨g1, g2, g3, g4, g5, g6⟩
    have hlti : i < m + 1 := by rw [← s4]; exact (Array.getElem?_eq_some_iff.1 ho).1
    refine wpOp_plain ho (plain i o ho) ?_
    have edge : ∀ j, j < m → listed.getD (par j) false = true → listed.getD j false = true := fun j hj hl => by
      obtain ⟨o2, ho2⟩ : ∃ o2, ops[par j]? = some o2 := ⟨_, Array.getElem?_eq_getElem (by have := par1 j hj; omega)⟩
      have h2 := (s1 j hj).2
      rw [ho2] at h2
      obtain ⟨e, he, e1, e2⟩ := edge_of h2
      have := hcl (par j) o2 hl ho2 e he e2
      rwa [e1] at this
    have under : listed.getD m false = true → ∀ d j, j + d = m → listed.getD j false = true := fun hl d => by
      induction d using Nat.strongRecOn with
      | _ d ih =>
        intro j hj
        by_cases c : j = m
        · rw [c]; exact hl
        · have := par1 j (by omega)
          exact edge j (by omega) (ih (m - par j) (by omega) _ (by omega))
    by_cases c1 : i < m
    · have mF : listed.getD m false = false := by
        cases c : listed.getD m false with
        | false => rfl
        | true => rw [under c (m - i) i (by omega)] at hi; cases hi
      obtain ⟨k, hk⟩ : ∃ k, ks[i]? = some k := ⟨_, List.getElem?_eq_getElem (by omega)⟩
      refine quiet i k o a' u hk ho (g5 mF) g3 (fun e he hb k' hk' => g4 _ k' hk' (hdep e he hb)) _ fun u' hu => ?_
      have hkD : k.1 ∈ ks.map (·.1) := List.mem_map.2 ⟨k, List.mem_of_getElem? hk, rfl⟩
      refine ⟨by simp [Act.put, g1], by simp [Act.put, g2], fun s hs => ?_, fun j k' hj hl => ?_, fun _ => Qt.trans (g5 mF) hu, fun hl => ?_⟩
      · rw [slot_put_ne _ (show k.1 ≠ s from fun e => hs (e ▸ hkD))]; exact g3 s hs
      · by_cases e : j = i
        · subst e
          obtain rfl := Option.some.inj (hk.symm.trans hj)
          exact slot_put_eq _ (by rw [g1]; exact lt' _ hkD)
        · rw [getD_set_ne false (fun q => e q.symm)] at hl
          rw [slot_put_ne _ (show k.1 ≠ k'.1 from fun q => e (sameAt j i k' k hj hk q.symm))]
          exact g4 j k' hj hl
      · rw [getD_set_ne false (by omega), mF] at hl; cases hl
    · obtain rfl : i = m := by omega
      have all : ∀ d j, j + d = i → j < i → listed.getD j false = true := fun d => by
        induction d using Nat.strongRecOn with
        | _ d ih =>
          intro j hj hji
          by_cases c : par j = i
          · have h2 := (s1 j hji).2
            rw [c, ho] at h2
            obtain ⟨e, he, e1, e2⟩ := edge_of h2
            have := hdep e he e2
            rwa [e1] at this
          · have := par1 j hji
            exact edge j hji (ih (i - par j) (by omega) _ (by omega) (by omega))
      refine last o a' u ho (g5 hi) g3 (fun j k hj => g4 j k hj (all (i - j) j (by have := (List.getElem?_eq_some_iff.1 hj).1; omega) (by have := (List.getElem?_eq_some_iff.1 hj).1; omega))) _ fun u' hR => ?_
      refine ⟨g1, g2, g3, fun j k hj hl => g4 j k hj ?_, fun hl => ?_, fun _ => hR⟩
      · have := (List.getElem?_eq_some_iff.1 hj).1
        rwa [getD_set_ne false (by omega)] at hl
      · rw [getD_set_true' (by omega)] at hl; cases hl
  · rintro listed a' u hall ⟨g1, g2, g3, g4, g5, g6⟩
    have e : a' = vfin ks a := Rf.vact_fin ks a a' hD g1 g2 (fun s hs => g3 s hs) (fun k hk => by
      obtain ⟨i, hi⟩ := List.mem_iff_getElem?.1 hk
      exact ⟨lt' _ (List.mem_map.2 ⟨k, hk, rfl⟩), g4 i k hi (hall i (by have := (List.getElem?_eq_some_iff.1 hi).1; omega))⟩)
    rw [e]
    exact done u (g6 (hall _ (by omega)))
  · have no : ∀ j, (Array.replicate ops.size false).getD j false = false := fun j => by by_cases h : j < ops.size <;> simp [h]
    exact ⟨rfl, rfl, fun _ _ => rfl, fun i _ _ h => (by rw [no] at h; cases h), fun _ => Qt.drew w, fun h => (by rw [no] at h; cases h)⟩
end Go.Proofs.YteickckgljlacaaGreat.Sw
