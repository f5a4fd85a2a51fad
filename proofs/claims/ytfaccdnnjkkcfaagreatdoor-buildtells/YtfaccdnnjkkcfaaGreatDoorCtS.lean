/-
  Package count: Size and Levels.
-/
import Derived.Test.YtfaccdnnjkkcfaaGreatDoorCtR
namespace Go.Proofs.YtfaccdnnjkkcfaaGreatDoor
open Go Go.RowKit

/-- How many of them lie on a level. -/
def lvN (M : Mdl) (ks : List Nat) (i : Nat) : Nat := (ks.filter fun k => decide ((M.nd k).1 = i)).length
theorem lvN_le (M : Mdl) (ks : List Nat) (i : Nat) : lvN M ks i ≤ ks.length := List.length_filter_le _ _
theorem lvN_put (M : Mdl) (ks : List Nat) (k i : Nat) : lvN M (ks ++ [k]) i = if i = (M.nd k).1 then lvN M ks (M.nd k).1 + 1 else lvN M ks i := by
  unfold lvN
  rw [List.filter_append, List.length_append]
  by_cases c : i = (M.nd k).1
  · subst c
    simp
  · rw [if_neg c, List.filter_cons, if_neg (by simp; exact fun e => c e.symm)]
    simp
theorem lvN_perm {M : Mdl} {ks ls : List Nat} (h : ks.Nodup) (g : ls.Nodup) (e : ∀ k, k ∈ ks ↔ k ∈ ls) (i : Nat) : lvN M ks i = lvN M ls i :=
  (((List.perm_ext_iff_of_nodup h g).2 e).filter _).length_eq
theorem rch_len {M : Mdl} {H : Nat → Nat} {n : Nat} {ks : List Nat} (r : Rch M H n ks) (h : ks.Nodup) : ks.length ≤ M.hs.length := nodup_le _ _ h r.inn
section
variable {w w' u : World} {S b h : Nat} {F0 : Nat → Prop} {M : Mdl}
def SizeQ (M : Mdl) (n : Nat) (H : Nat → Nat) (e : Ending) : Prop :=
  ((∀ i, i < n → M.isNode (H i)) ∧ ∃ ks, ks.Nodup ∧ Rch M H n ks ∧ e = .returned (.tuple #[.int .i64 (ks.length : Int), .int .i64 0])) ∨ ((∃ i, i < n ∧ ¬ M.isNode (H i)) ∧ e = .returned (.tuple #[.int .i64 0, .int .i64 101]))
def LevelsQ (M : Mdl) (n : Nat) (H : Nat → Nat) (w : World) (e : Ending) (w' : World) : Prop :=
  ((∀ i, i < n → M.isNode (H i)) ∧ ∃ g ks, ks.Nodup ∧ Rch M H n ks ∧ e = .returned (.tuple #[.slice (some ⟨g, 0, none⟩) M.n M.n, .int .i64 0]) ∧ w'.rowIs g 3 M.n (fun i => .int .i64 (lvN M ks i : Int)) ∧ w.heap.size ≤ g) ∨ ((∃ i, i < n ∧ ¬ M.isNode (H i)) ∧ e = .returned (.tuple #[.slice none 0 0, .int .i64 101]))
end
end Go.Proofs.YtfaccdnnjkkcfaaGreatDoor
