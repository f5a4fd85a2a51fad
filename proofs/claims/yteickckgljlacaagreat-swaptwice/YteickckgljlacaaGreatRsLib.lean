/-
  What the library's functions do to a slice of handles, nil or not: sorted, filtered, compacted, gathered from a map's keys.
-/
import Derived.Test.YteickckgljlacaaGreatRsNone
import Derived.Test.YteickckgljlacaaGreatRsCompact
import Derived.Test.YteickckgljlacaaGreatRsKeys
import Derived.Test.YteickckgljlacaaGreatRsOwn
namespace Go.Proofs.YteickckgljlacaaGreat.Rs
open Go Go.RowKit

theorem perm_of_pm {n : Nat} {d R : Array Int} (h : Pm 0 n d R) (hn : d.size = n) : R.toList.Perm d.toList := by
  have h1 := h.size
  have h2 := h.2.2
  rw [show R.extract 0 n = R by rw [← hn, ← h1]; simp, show d.extract 0 n = d by rw [← hn]; simp] at h2
  exact h2
theorem Went.at_blk {g : Nat} {w w' : World} (h : Went (fun k => k = g) w w') : Went (At (some ⟨g, 0, none⟩)) w w' := h.wider fun _ e => ⟨_, rfl, e.symm⟩
section
variable {w : World} {ad : Option Addr} {cap : Nat} {xs : List Int}
theorem sortH (h : OwnH w ad cap xs) (hn : xs.length < 65536) :
    Calls Tryz.prog 90 #[.slice ad xs.length cap] w fun e w' => e = .returned (.tuple #[]) ∧ ∃ ys, ys.Perm xs ∧ (∀ i, i + 1 < ys.length → ys[i]! ≤ ys[i + 1]!) ∧ OwnH w' ad cap ys ∧ Went (At ad) w w' := by
  rcases h.parts with ⟨rfl, rfl, rfl⟩ | ⟨g, U, rfl, hR⟩
  · refine (sort_none none 0 w).mono ?_
    rintro e w' ⟨rfl, rfl⟩
    exact ⟨rfl, [], .refl _, by simp, OwnH.nil _, Went.refl _ _⟩
  · refine (sort_any hR (by simp) hn).mono ?_
    rintro e w' ⟨rfl, R, hS, hR'⟩
    have hp := perm_of_pm hS.1 (by simp)
    refine ⟨rfl, R.toList, by simpa using hp, fun i hi => ?_, OwnH.of_rw hR' h.max.1, hR'.went.at_blk⟩
    have hsz : R.size = xs.length := by rw [hS.1.size]; simp
    have hi' : i + 1 < R.size := by simpa using hi
    have := hS.2 i (i + 1) (by omega) (by omega) (by omega)
    have h2 : ¬ R[i + 1]! < R[i]! := by simpa [Sort.ltInt] using this
    rw [getElem!_pos R.toList i (by simp; omega), getElem!_pos R.toList (i + 1) (by simpa using hi')]
    rw [getElem!_pos R i (by omega), getElem!_pos R (i + 1) hi'] at h2
    simpa using h2
end

/-! ## The keys of a map, as a slice of the call's own -/
theorem own_of_row {w : World} {B : Nat} {v : Value} {xs : List Int} (h : w.ownsRow B 38 1 v xs.length (xs.map hV)) : ∃ ad cap, v = .slice ad xs.length cap ∧ OwnH w ad cap xs ∧ ∀ k, At ad k → B ≤ k := by
  rcases h with ⟨h1, ⟨rfl, h2⟩ | ⟨g, cap, cur, rfl, hb, r⟩⟩
  · have : xs = [] := List.length_eq_zero_iff.1 h2
    subst this
    exact ⟨none, 0, rfl, OwnH.nil _, fun k hk => by obtain ⟨a, ha, _⟩ := hk; cases ha⟩
  · exact ⟨_, cap, rfl, ⟨h1, .inr ⟨g, cap, cur, rfl, Nat.zero_le _, r⟩⟩, fun k hk => by obtain ⟨a, ha, rfl⟩ := hk; cases ha; exact hb⟩
theorem up_chain {l : List Int} (h : ∀ i, i + 1 < l.length → l[i]! ≤ l[i + 1]!) : ∀ k i, i + k < l.length → l[i]! ≤ l[i + k]!
  | 0, i, _ => Int.le_refl _
  | k + 1, i, hi => Int.le_trans (up_chain h k i (by omega)) (h (i + k) (by omega))
theorem strict_of {l : List Int} (hn : l.Nodup) (h : ∀ i, i + 1 < l.length → l[i]! ≤ l[i + 1]!) : l.Pairwise (· < ·) := by
  rw [List.pairwise_iff_getElem]
  intro i j hi hj hij
  have h1 := up_chain h (j - i) i (by omega)
  rw [show i + (j - i) = j by omega, getElem!_pos l i hi, getElem!_pos l j hj] at h1
  have h2 : l[i] ≠ l[j] := fun e => by
    have := (List.getElem?_inj hi hn).1 (show l[i]? = l[j]? by rw [List.getElem?_eq_getElem hi, List.getElem?_eq_getElem hj, e])
    omega
  omega
theorem Keys.perm {P : Int → Option Int} {xs ys : List Int} (h : Keys P xs) (p : ys.Perm xs) : Keys P ys := ⟨p.nodup_iff.2 h.1, fun x => (p.mem_iff).trans (h.2 x)⟩

end Go.Proofs.YteickckgljlacaaGreat.Rs
