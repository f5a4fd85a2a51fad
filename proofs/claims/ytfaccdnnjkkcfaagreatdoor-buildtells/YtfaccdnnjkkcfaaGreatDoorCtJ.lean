/-
  Package count: what joins children's numbers, for Count, Support and One.
-/
import Derived.Test.YtfaccdnnjkkcfaaGreatDoorCtP
import Derived.Test.YtfaccdnnjkkcfaaGreatDoorLgc
namespace Go.Proofs.YtfaccdnnjkkcfaaGreatDoor
open Go Go.RowKit

theorem or_i64 (a b : Nat) (ha : a < 512) (hb : b < 512) : bits .or .i64 (a : Int) (b : Int) = ((a ||| b : Nat) : Int) := by
  have hx : a ||| b < 2 ^ 9 := Nat.or_lt_two_pow (by omega) (by omega)
  show IntKind.i64.wrap ((BitVec.ofInt 64 (a : Int) ||| BitVec.ofInt 64 (b : Int)).toNat : Int) = _
  rw [BitVec.toNat_or, ofInt_u64 a (by omega), ofInt_u64 b (by omega), IntKind.wrap_i64]
  omega
theorem pow_i64 {v : Nat} (hv : v < 9) : ∃ p : Nat, 2 ^ v = p ∧ p < 512 ∧ (2 : Int) ^ v = (p : Int) ∧ IntKind.i64.wrap ((2 : Int) ^ v) = (p : Int) := by
  have h : (2 : Nat) ^ v < 2 ^ 9 := Nat.pow_lt_pow_right (by omega) hv
  have e : (2 : Int) ^ v = ((2 ^ v : Nat) : Int) := by push_cast; rfl
  refine ⟨2 ^ v, rfl, h, e, ?_⟩
  rw [e, IntKind.wrap_i64]
  have : ((2 ^ v : Nat) : Int) < 512 := Int.ofNat_lt.2 h
  have : 0 ≤ ((2 ^ v : Nat) : Int) := Int.natCast_nonneg _
  omega
theorem jcnt_any (v a b : Nat) (ha : a ≤ 256) (hb : b ≤ 256) (w : World) :
    Calls Tryz.prog 62 #[.int .i64 (v : Int), .int .i64 (a : Int), .int .i64 (b : Int)] w fun e w' => e = .returned (.int .i64 (jCnt v a b : Int)) ∧ w' = w := by
  have h1 : Int.tdiv (a : Int) 2 = ((a / 2 : Nat) : Int) := rfl
  have h2 : Int.tdiv (b : Int) 2 = ((b / 2 : Nat) : Int) := rfl
  have h3 : (a : Int) / 2 = ((a / 2 : Nat) : Int) := rfl
  have h4 : (b : Int) / 2 = ((b / 2 : Nat) : Int) := rfl
  unfold jCnt
  obtain ⟨x, hx⟩ : ∃ x, a / 2 = x := ⟨_, rfl⟩
  obtain ⟨y, hy⟩ : ∃ y, b / 2 = y := ⟨_, rfl⟩
  rw [hx] at h1 h3 ⊢
  rw [hy] at h2 h4 ⊢
  have h5 : IntKind.i64.wrap ((x : Int) + (y : Int)) = ((x + y : Nat) : Int) := by rw [IntKind.wrap_i64]; omega
  have h6 : IntKind.i64.wrap (x : Int) = (x : Int) := by rw [IntKind.wrap_i64]; omega
  have h7 : IntKind.i64.wrap (y : Int) = (y : Int) := by rw [IntKind.wrap_i64]; omega
  have b1 : x ≤ 256 := by omega
  have b2 : y ≤ 256 := by omega
  clear hx hy
  go_enter Tryz.func62, Tryz.ntmps62
  go_wp2_with fail
  go_ret
  exact ⟨by simp, rfl⟩
end Go.Proofs.YtfaccdnnjkkcfaaGreatDoor
