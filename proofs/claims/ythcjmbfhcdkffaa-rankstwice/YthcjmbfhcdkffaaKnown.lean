/-
  The statements' own first look ('known').
-/
import Derived.Test.YthcjmbfhcdkffaaHas
namespace Go.Proofs.Ythcjmbfhcdkffaa
open Go Go.RowKit

theorem Went.keeps {S S' : Nat → Prop} {w w' : World} (h : Went S S' w w') {b : Nat} (hb : b < w.heap.size) (hS : ¬ S b) : w'.heap[b]? = w.heap[b]? ∧ ¬ S' b :=
  ⟨h.moved.block b hb hS, fun e => by
    rcases h.new b e with s | s
    · exact hS s
    · omega⟩
theorem Went.low {S S' : Nat → Prop} {w w' : World} (h : Went S S' w w') {B : Nat} (hB : B ≤ w.heap.size) (hS : ∀ k, S k → B ≤ k) : ∀ k, S' k → B ≤ k := fun k hk => by
  rcases h.new k hk with s | s
  · exact hS k s
  · omega
theorem Went.below {S S' : Nat → Prop} {w w' : World} (h : Went S S' w w') {B : Nat} (hB : B ≤ w.heap.size) (hS : ∀ k, S k → B ≤ k) : Below B w w' := h.moved.below hB hS
theorem below_far {W a b : World} (h : Below W.heap.size W a) (k : Below a.heap.size a b) : Below W.heap.size W b := h.trans (k.mono h.size)
theorem Moved.below' {S : Nat → Prop} {W a b : World} (h : Below W.heap.size W a) (k : Moved S a b) (hS : ∀ k, S k → W.heap.size ≤ k) : Below W.heap.size W b := h.trans (k.below h.size hS)
theorem Went.below' {S S' : Nat → Prop} {W a b : World} (h : Below W.heap.size W a) (k : Went S S' a b) (hS : ∀ k, S k → W.heap.size ≤ k) : Below W.heap.size W b := h.trans (k.below h.size hS)

def knownK : Int → Option Int := at1 (at1 (at1 (fun _ => none) 1 (some 5)) 3 (some 7)) 2 (some 7)
theorem known_top {x : Int × Int} (h : knownK x.1 = some x.2 ∧ ∀ id key, knownK id = some key → bet (id, key) x = false) : x = (2, 7) := by
  obtain ⟨x0, x1⟩ := x
  obtain ⟨h1, h2⟩ := h
  have h3 := bet_not.1 (h2 2 7 rfl)
  simp only at h1 h3
  unfold knownK at1 at h1
  by_cases e2 : x0 = 2
  · subst e2
    simp at h1
    rw [← h1]
  · rw [if_neg e2] at h1
    by_cases e3 : x0 = 3
    · subst e3
      simp at h1
      omega
    · rw [if_neg e3] at h1
      by_cases e1 : x0 = 1
      · subst e1
        simp at h1
        omega
      · rw [if_neg e1] at h1
        cases h1

theorem eq_ptr (b : Nat) (w : World) : (binOp BinOp.eql 24 (.pointer (some ⟨b, 0, none⟩)) (.pointer none)).run Try.prog w = .ok (.bool false) w := by kernel_rfl

set_option maxHeartbeats 1600000 in
theorem known_any (w : World) : Calls Try.prog 7 #[] w fun e w' => e = .returned (.bool true) ∧ Below w.heap.size w w' := by
  have H1 := new_any w
  go_enter Try.func7, Try.ntmps7
  go_wp2_with (first
    | (go_at_call 8; refine H1.mono ?_; clear H1; rintro e w1 ⟨rfl, S1, q1, l1, b1⟩; have H2 := push_yes q1 (by omega) (id := 1) rfl 5)
    | (go_at_call 9; refine H2.mono ?_; clear H2; rintro e w2 ⟨rfl, S2, q2, g2⟩; have B2 := Went.below' b1 g2 l1; have l2 := g2.low b1.size l1; have H3 := push_yes q2 (by omega) (id := 3) rfl 7; clear g2 b1 l1 q1)
    | (go_at_call 9; refine H3.mono ?_; clear H3; rintro e w3 ⟨rfl, S3, q3, g3⟩; have B3 := Went.below' B2 g3 l2; have l3 := g3.low B2.size l2; have H4 := push_yes q3 (by omega) (id := 2) rfl 7; clear g3 B2 l2 q2)
    | (go_at_call 9; refine H4.mono ?_; clear H4; rintro e w4 ⟨rfl, S4, q4, g4⟩; have B4 := Went.below' B3 g4 l3; have l4 := g4.low B3.size l3; have H5 := push_no q4 (id := 2) rfl 9; clear g4 B3 l3 q3)
    | (go_at_call 9; refine H5.mono ?_; clear H5; rintro e w5 ⟨rfl, rfl⟩; have H6 := len_any q4; have H7 := pop_some q4 (by omega))
    | (go_at_call 15; refine H6.mono ?_; clear H6; rintro e w6 ⟨rfl, rfl⟩)
    | (go_at_call 11; refine H7.mono ?_; clear H7; rintro e w7 ⟨x, rfl, hx, q7, m7⟩; obtain rfl := known_top hx; have B7 := Moved.below' B4 m7 l4; have H8 := change_yes (q7.new (.cells #[.int .i64 2, .int .i64 7] 30)) (by omega) (id := 1) rfl 8; clear m7 B4 q4 hx)
    | (go_at_call 12; refine H8.mono ?_; clear H8; rintro e w8 ⟨rfl, q8, m8⟩; have B8 := Moved.below' (B7.alloc B7.size _) m8 l4; have H9 := change_no q8 (id := 9) rfl 9; clear m8 B7 q7)
    | (go_at_call 12; refine H9.mono ?_; clear H9; rintro e w9 ⟨rfl, b9⟩))
  go_ret
  exact ⟨rfl, below_far B8 b9⟩
end Go.Proofs.Ythcjmbfhcdkffaa
