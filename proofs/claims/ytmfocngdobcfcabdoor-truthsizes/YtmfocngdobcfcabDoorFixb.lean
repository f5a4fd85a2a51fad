/-
  What Fix of the reference returns: variables within a word.
-/
import Derived.Test.YtmfocngdobcfcabDoorFix
namespace Go.Proofs.YtmfocngdobcfcabDoor
open Go Go.RowKit

theorem mask_set (v x : Nat) (hx : x < 64) (h : M v x = true) : bits .or .u64 (word (fun y => decide (y < x) && M v y) 0 : Int) (IntKind.u64.wrap (2 ^ x)) = (word (fun y => decide (y < x + 1) && M v y) 0 : Int) := by
  rw [set_bit _ 0 x hx]
  congr 1
  apply word_congr
  intro i _
  have := upto_step (M v) x (64 * 0 + i)
  rw [h, Bool.and_true] at this
  simpa using this
theorem mask_skip (v x : Nat) (h : M v x = false) : word (fun y => decide (y < x) && M v y) 0 = word (fun y => decide (y < x + 1) && M v y) 0 := by
  apply word_congr
  intro i _
  have := upto_step (M v) x (64 * 0 + i)
  rw [h, Bool.and_false, Bool.or_false] at this
  exact this
theorem mask_all (v : Nat) : word (fun y => decide (y < 64) && M v y) 0 = word (M v) 0 := word_congr fun i hi => by simp [hi]

theorem up_int (F : Nat → Bool) (v k S : Nat) (hv : v < 6) (hS : 2 ^ v = S) : bits .or .u64 (word (fun x => F x && M v x) k : Int) ((word (fun x => F x && M v x) k : Int) / 2 ^ S) = (word (fixF F v true) k : Int) := by
  subst hS
  have h1 : ((word (fun x => F x && M v x) k : Int) / 2 ^ (2 ^ v)) = ((word (fun x => F x && M v x) k / 2 ^ (2 ^ v) : Nat) : Int) := by push_cast; rfl
  rw [h1, u64_or_nat _ _ (word_lt _ k) (Nat.lt_of_le_of_lt (Nat.div_le_self _ _) (word_lt _ k)), fix_up F v k hv]
theorem down_int (F : Nat → Bool) (v k S : Nat) (hv : v < 6) (hS : 2 ^ v = S) : bits .or .u64 (word (fun x => F x && !M v x) k : Int) (IntKind.u64.wrap ((word (fun x => F x && !M v x) k : Int) * 2 ^ S)) = (word (fixF F v false) k : Int) := by
  subst hS
  have h1 : IntKind.u64.wrap ((word (fun x => F x && !M v x) k : Int) * 2 ^ (2 ^ v)) = ((word (fun x => F x && !M v x) k * 2 ^ (2 ^ v) % 18446744073709551616 : Nat) : Int) := by
    have h2 : (word (fun x => F x && !M v x) k : Int) * 2 ^ (2 ^ v) = ((word (fun x => F x && !M v x) k * 2 ^ (2 ^ v) : Nat) : Int) := by push_cast; rfl
    rw [IntKind.wrap_u64, h2]
    exact (Int.natCast_emod _ 18446744073709551616).symm
  rw [h1, u64_or_nat _ _ (word_lt _ k) (Nat.mod_lt _ (by decide)), fix_down F v k hv]

end Go.Proofs.YtmfocngdobcfcabDoor
