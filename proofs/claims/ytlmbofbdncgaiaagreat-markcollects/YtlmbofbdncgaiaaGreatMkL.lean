/-
  Functions laid aside for the walks.
-/
import Derived.Test.YtlmbofbdncgaiaaGreatMkK
namespace Go.Proofs.YtlmbofbdncgaiaaGreat.Mk
open Go Go.RowKit
open Rf (tab word IsTab)

/-- The block of a function. -/
def fo (F : Nat → Bool) : Obj := .cells #[.int .u64 (word F 0 : Int), .int .u64 (word F 1 : Int), .int .u64 (word F 2 : Int), .int .u64 (word F 3 : Int)] 24
theorem boxes3 (w : World) (F G H : Nat → Bool) : IsTab (((w.alloc (fo F)).alloc (fo G)).alloc (fo H)) w.heap.size F ∧ IsTab (((w.alloc (fo F)).alloc (fo G)).alloc (fo H)) (w.heap.size + 1) G ∧ IsTab (((w.alloc (fo F)).alloc (fo G)).alloc (fo H)) (w.heap.size + 1 + 1) H ∧ Below w.heap.size w (((w.alloc (fo F)).alloc (fo G)).alloc (fo H)) := by
  refine ⟨((IsTab.new w F).alloc _).alloc _, (IsTab.newAt (by simp) G).alloc _, IsTab.newAt (by simp) H, (((Below.refl _ w).alloc (Nat.le_refl _) _).alloc (by simp) _).alloc (by simp; omega) _⟩
theorem boxes2 (w : World) (F G : Nat → Bool) : IsTab ((w.alloc (fo F)).alloc (fo G)) w.heap.size F ∧ IsTab ((w.alloc (fo F)).alloc (fo G)) (w.heap.size + 1) G ∧ Below w.heap.size w ((w.alloc (fo F)).alloc (fo G)) := by
  refine ⟨(IsTab.new w F).alloc _, IsTab.newAt (by simp) G, ((Below.refl _ w).alloc (Nat.le_refl _) _).alloc (by simp) _⟩
theorem Out.tab {w w' : World} (o : Out w w') {b : Nat} {F : Nat → Bool} (h : IsTab w b F) : IsTab w' b F := o b _ _ _ h (by decide)
/-- Three functions in a store: two of them are nodes. -/
def St3 (W w : World) (S r : Nat) (F G H : Nat → Bool) (a b c : Nat) : Prop := ∃ Fs M, St w S Fs M ∧ M.n = 8 ∧ M.room = r ∧ M.up ≤ 189 ∧ (M.isNode a ∧ Eqt (M.tbl a) F) ∧ (M.isNode b ∧ Eqt (M.tbl b) G) ∧ (M.isNode c ∧ Eqt (M.tbl c) H) ∧ Below W.heap.size W w ∧ ∀ k, Fs k → W.heap.size ≤ k
theorem St3.of {W w : World} {S r : Nat} {F G H : Nat → Bool} {a b c : Nat} {l : Kl} (h : Sx W w S 8 r ((c, H) :: (b, G) :: (a, F) :: l) 189) : St3 W w S r F G H a b c := by
  obtain ⟨Fs, M, s, e1, e2, e3, q, B, f⟩ := h
  exact ⟨Fs, M, s, e1, e2, e3, q (a, F) (by simp), q (b, G) (by simp), q (c, H) (by simp), B, f⟩
section
variable {M : Mdl} {a c : Nat} {xs ys zs ts : List Nat} {H : Nat → Nat}
theorem at2_yes {P : Nat → Prop} (hc : P c) (ha : P a) : ∀ i, i < 2 → P (at2 c a i) := fun i _ => by unfold at2; split; exact hc; exact ha
theorem at3_yes {P : Nat → Prop} {d : Nat} (ha : P a) (hc : P c) (hd : P d) : ∀ i, i < 3 → P (at3 a c d i) := fun i _ => by
  unfold at3
  split
  · exact ha
  · split
    · exact hc
    · exact hd
theorem tw1 (o : M.Ok) (r1 : Rch M (at2 c a) 2 xs) (u1 : xs.Pairwise (· < ·)) (r2 : Rch M (at3 a c 0) 3 ys) (u2 : ys.Pairwise (· < ·)) : ys = xs :=
  r2.same o r1 u2 u1 (at3_yes (P := fun x => x < 2 ∨ ∃ i', i' < 2 ∧ at2 c a i' = x) (.inr ⟨1, by omega, rfl⟩) (.inr ⟨0, by omega, rfl⟩) (.inl (by omega))) (at2_yes (P := fun x => x < 2 ∨ ∃ i', i' < 3 ∧ at3 a c 0 i' = x) (.inr ⟨1, by omega, rfl⟩) (.inr ⟨0, by omega, rfl⟩))
theorem tw2 (o : M.Ok) (r1 : Rch M (at2 c a) 2 xs) (u1 : xs.Pairwise (· < ·)) (r2 : Rch (only M xs) (at2 c a) 2 ys) (u2 : ys.Pairwise (· < ·)) : ys = xs :=
  r1.again o u1 r2 u2 fun i hi => .inr ⟨i, hi, rfl⟩
end
end Go.Proofs.YtlmbofbdncgaiaaGreat.Mk
