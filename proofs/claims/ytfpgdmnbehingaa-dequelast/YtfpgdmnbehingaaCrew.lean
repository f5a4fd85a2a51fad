/-
  A row of acts of one deque: what a step of one of them does to all.
-/
import Derived.Test.YtfpgdmnbehingaaOwn
import Derived.Test.YtfpgdmnbehingaaLastM
namespace Go.Proofs.Ytfpgdmnbehingaa
open Go Go.RowKit

/-- The m acts at As, in the states Ss, of the deque at T with the cells c. -/
structure Crew (W w : World) (R T n m : Nat) (ad : Option Addr) (cap : Nat) (As : Nat → Nat) (Ss : Nat → Ac) (c : Nat → Int) : Prop where
  sys : ∃ o f, Sys w (R + 1) R (n + 2) T 0 n c o f
  own : OwnR 35 w W.heap.size ad m cap (fun i => .pointer (some ⟨As i, 0, none⟩))
  acts : ∀ i, i < m → IsAct w (As i) T (Ss i) ∧ W.heap.size ≤ As i
  inj : ∀ i j, i < m → j < m → As i = As j → i = j
  old : Below W.heap.size W w
  hR : W.heap.size ≤ R

def setA (As : Nat → Nat) (k : Nat) (A : Nat) : Nat → Nat := fun i => if i = k then A else As i
theorem setA_same (As : Nat → Nat) (k : Nat) (A : Nat) : setA As k A k = A := by simp [setA]
theorem setA_other (As : Nat → Nat) {k i : Nat} (A : Nat) (h : i ≠ k) : setA As k A i = As i := by simp [setA, h]

section
variable {W w w' : World} {R T n m cap : Nat} {ad : Option Addr} {As : Nat → Nat} {Ss : Nat → Ac} {c : Nat → Int}
theorem Crew.size (h : Crew W w R T n m ad cap As Ss c) : W.heap.size ≤ w.heap.size := h.old.size
theorem Crew.stand (h : Crew W w R T n m ad cap As Ss c) : Stand W w R (n + 2) T 0 n c := ⟨h.sys, h.old, h.hR⟩
theorem Crew.act (h : Crew W w R T n m ad cap As Ss c) {k : Nat} (hk : k < m) : IsAct w (As k) T (Ss k) := (h.acts k hk).1
theorem Crew.new (h : Crew W w R T n m ad cap As Ss c) (k : Below w.heap.size w w') : Crew W w' R T n m ad cap As Ss c := by
  obtain ⟨o, f, H⟩ := h.sys
  exact ⟨⟨o, f, H.below k⟩, h.own.below k, fun i hi => ⟨(h.acts i hi).1.below k, (h.acts i hi).2⟩, h.inj, far h.old k h.size, h.hR⟩
/-- One act more. -/
theorem Crew.add {w2 : World} {A g cap' : Nat} {S : Ac} (h : Crew W w R T n m ad cap As Ss c) (hF : IsAct w A T S) (hWF : W.heap.size ≤ A) (hnew : ∀ i, i < m → As i ≠ A)
    (o2 : OwnR 35 w2 W.heap.size (some ⟨g, 0, none⟩) (m + 1) cap' (fun i => if i = m then .pointer (some ⟨A, 0, none⟩) else .pointer (some ⟨As i, 0, none⟩))) (k : Went (At ad) w w2) :
    Crew W w2 R T n (m + 1) (some ⟨g, 0, none⟩) cap' (setA As m A) (setS Ss m S) c := by
  obtain ⟨o, f, H⟩ := h.sys
  refine ⟨⟨o, f, H.row h.own plain35 k⟩, o2.congr fun i hi => ?_, fun i hi => ?_, fun i j hi hj e => ?_, h.old.trans (k.below h.size fun b hb => (h.own.block b hb).1), h.hR⟩
  · by_cases d : i = m
    · simp only [d, if_true, setA_same]
    · simp only [d, if_false, setA_other _ _ d]
  · by_cases d : i = m
    · rw [d, setA_same, setS_same]
      exact ⟨hF.row h.own plain35 k, hWF⟩
    · rw [setA_other _ _ d, setS_other _ _ d]
      have := h.acts i (by omega)
      exact ⟨this.1.row h.own plain35 k, this.2⟩
  · by_cases d : i = m
    · by_cases d2 : j = m
      · omega
      · rw [d, setA_same, setA_other _ _ d2] at e
        exact absurd e.symm (hnew j (by omega))
    · by_cases d2 : j = m
      · rw [d2, setA_same, setA_other _ _ d] at e
        exact absurd e (hnew i (by omega))
      · rw [setA_other _ _ d, setA_other _ _ d2] at e
        exact h.inj i j (by omega) (by omega) e
/-- A step of act k, be it done or not. -/
theorem crew_step (h : Crew W w R T n m ad cap As Ss c) {k : Nat} (hk : k < m) (f : Fit (Ss k)) :
    Calls Try.prog 19 #[.pointer (some ⟨As k, 0, none⟩)] w fun e w' => e = .returned (.bool (decide (((Ss k).nxt 0 n c).st = 0))) ∧
      Crew W w' R T n m ad cap As (setS Ss k ((Ss k).nxt 0 n c)) ((Ss k).after 0 n c) := by
  obtain ⟨o, g, H⟩ := h.sys
  obtain ⟨ka, hW⟩ := h.acts k hk
  refine (step_any H ka f).mono ?_
  rintro e w' ⟨rfl, s1, k1, b1⟩
  refine ⟨rfl, ⟨s1, h.own.went plain35 H ka b1, fun i hi => ?_, h.inj, h.old.trans (b1.below h.size fun i hi => by have := h.hR; rcases hi with e | e | e <;> omega), h.hR⟩⟩
  by_cases d : i = k
  · rw [d, setS_same]
    exact ⟨k1, hW⟩
  · rw [setS_other _ _ d]
    obtain ⟨ki, hWi⟩ := h.acts i hi
    have hne : As i ≠ As k := fun e => d (h.inj i k hi hk e)
    refine ⟨ki.kept (b1.block _ ki.lt fun e => ?_), hWi⟩
    rcases e with e | e | e
    · exact ki.neP H.mem e
    · exact ki.neR H.mem e
    · exact hne e
theorem crew_steal (h : Crew W w R T n m ad cap As Ss c) :
    Calls Try.prog 15 #[.pointer (some ⟨T, 0, none⟩)] w fun e w' => ∃ A, e = .returned (.pointer (some ⟨A, 0, none⟩)) ∧ IsAct w' A T Ac.ofSteal ∧ W.heap.size ≤ A ∧ Crew W w' R T n m ad cap As Ss c ∧ (∀ i, i < m → As i ≠ A) := by
  refine (s_steal h.stand).mono ?_
  rintro e w' ⟨A, rfl, k1, a1, _, b1, e1⟩
  exact ⟨A, rfl, k1, a1, h.new b1, fun i hi e => by have := (h.acts i hi).1.lt; have := e1.out; omega⟩
end
end Go.Proofs.Ytfpgdmnbehingaa
