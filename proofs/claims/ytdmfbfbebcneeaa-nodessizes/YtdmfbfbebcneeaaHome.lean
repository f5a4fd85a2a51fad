/-
  What package bits' Home returns: a place below the size, one for each key and size.
-/
import Derived.Test.YtdmfbfbebcneeaaProg
import Derived.Laws.Entries
import Derived.Laws.BitsLemmas
import Derived.Laws.BitsAllLaws
import Derived.Laws.Bits64
import Derived.Laws.Closers25b
import Derived.WalkKit
import Derived.Handy
namespace Go.Proofs.Ytdmfbfbebcneeaa
open Go Go.RowKit

def fo (x : Nat) : Nat := x ^^^ x / 8589934592
def mx (x : Nat) : Nat := fo (fo (fo x * 18397679294719823053 % 18446744073709551616) * 14181476777654086739 % 18446744073709551616)
def mixZ (x : Int) : Int := ((mx x.toNat : Nat) : Int)
/-- Where the search for key k begins among n places. -/
def home (k : Int) (n : Nat) : Nat := mx k.toNat % n
theorem home_lt (k : Int) {n : Nat} (h : 1 ≤ n) : home k n < n := Nat.mod_lt _ h

theorem fo_lt (x : Nat) (h : x < 18446744073709551616) : fo x < 18446744073709551616 :=
  Nat.xor_lt_two_pow (n := 64) h (Nat.lt_of_le_of_lt (Nat.div_le_self _ _) h)
theorem mx_lt (x : Nat) : mx x < 18446744073709551616 := fo_lt _ (Nat.mod_lt _ (by decide))
theorem mixZ_lo (x : Int) : 0 ≤ mixZ x := Int.natCast_nonneg _
theorem mixZ_hi (x : Int) : mixZ x ≤ 18446744073709551615 := by have := mx_lt x.toNat; unfold mixZ; omega
theorem mul_form (n c : Nat) : IntKind.u64.wrap ((n : Int) * (c : Int)) = ((n * c % 18446744073709551616 : Nat) : Int) := by
  rw [IntKind.wrap_u64, Int.natCast_emod, Int.natCast_mul]; rfl
theorem fold_form' (n : Nat) (h : n < 18446744073709551616) : bits .xor .u64 (n : Int) ((n : Int) / 8589934592) = ((fo n : Nat) : Int) := xorShift_u64 n 8589934592 h
theorem mix_form (x : Int) (h0 : 0 ≤ x) (h1 : x ≤ 18446744073709551615) :
    bits .xor .u64 (IntKind.u64.wrap (bits .xor .u64 (IntKind.u64.wrap (bits .xor .u64 x (x / 8589934592) * 18397679294719823053)) (IntKind.u64.wrap (bits .xor .u64 x (x / 8589934592) * 18397679294719823053) / 8589934592) * 14181476777654086739))
      (IntKind.u64.wrap (bits .xor .u64 (IntKind.u64.wrap (bits .xor .u64 x (x / 8589934592) * 18397679294719823053)) (IntKind.u64.wrap (bits .xor .u64 x (x / 8589934592) * 18397679294719823053) / 8589934592) * 14181476777654086739) / 8589934592) = mixZ x := by
  have p : (0 : Nat) < 18446744073709551616 := by decide
  obtain ⟨n, rfl⟩ := Int.eq_ofNat_of_zero_le h0
  have e1 := mul_form (fo n) 18397679294719823053
  have e2 := mul_form (fo (fo n * 18397679294719823053 % 18446744073709551616)) 14181476777654086739
  simp only [Int.cast_ofNat_Int] at e1 e2
  rw [fold_form' n (by omega), e1, fold_form' _ (Nat.mod_lt _ p), e2, fold_form' _ (Nat.mod_lt _ p)]
  rfl

theorem mix_any (x : Int) (w : World) (h0 : 0 ≤ x) (h1 : x ≤ 18446744073709551615) :
    Calls Try.prog 86 #[.int .u64 x] w fun e w' => e = .returned (.int .u64 (mixZ x)) ∧ w' = w := by
  rw [← mix_form x h0 h1]
  go_enter Try.func86, Try.ntmps86
  go_wp2
  go_ret
  exact ⟨rfl, rfl⟩
theorem home_any (x : Int) (n : Nat) (w : World) (h0 : 0 ≤ x) (h1 : x ≤ 18446744073709551615) (h2 : 1 ≤ n) (h3 : n ≤ 262144) :
    Calls Try.prog 75 #[.int .u64 x, .int .i64 (n : Int)] w fun e w' => e = .returned (.int .i64 ((home x n : Nat) : Int)) ∧ w' = w := by
  have m0 := mixZ_lo x
  have m1 := mixZ_hi x
  have hs : ¬ (n : Int) < 1 := by omega
  have r2 : mixZ x % (n : Int) = ((home x n : Nat) : Int) := by simp [home, mixZ]
  have r0 : 0 ≤ mixZ x % (n : Int) := Int.emod_nonneg _ (by omega)
  have r1 : mixZ x % (n : Int) < n := Int.emod_lt_of_pos _ (by omega)
  rw [← r2]
  clear r2
  go_enter Try.func75, Try.ntmps75
  go_wp2_with (go_at_call 86; refine (mix_any _ _ (by omega) (by omega)).mono ?_; rintro e w' ⟨rfl, rfl⟩)
  go_ret
  exact ⟨rfl, rfl⟩
end Go.Proofs.Ytdmfbfbebcneeaa
