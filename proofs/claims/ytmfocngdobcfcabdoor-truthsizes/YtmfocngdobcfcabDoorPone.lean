/-
  The least assignment: what the program's own call returns.
-/
import Derived.Test.YtmfocngdobcfcabDoorPcount
namespace Go.Proofs.YtmfocngdobcfcabDoor
open Go Go.RowKit Num

theorem low_bit (n i : Nat) (hn : n < 18446744073709551616) (hi : i < 64) (h1 : n.testBit i = true) (h0 : ∀ j, j < i → n.testBit j = false) : n &&& (18446744073709551616 - n) = 2 ^ i := by
  have hz : n % 2 ^ i = 0 := by
    apply Nat.eq_of_testBit_eq
    intro j
    rw [Nat.testBit_mod_two_pow, Nat.zero_testBit]
    by_cases hj : j < i
    · simp [h0 j hj]
    · simp [hj]
  have ho : n / 2 ^ i % 2 = 1 := by
    rw [Nat.testBit_eq_decide_div_mod_eq] at h1
    simpa using h1
  have hp : 0 < 2 ^ i := Nat.two_pow_pos i
  obtain ⟨q, hq⟩ : ∃ q, n = 2 ^ i * (2 * q + 1) := ⟨n / 2 ^ i / 2, by
    have h2 := Nat.div_add_mod n (2 ^ i)
    have h3 : 2 * (n / 2 ^ i / 2) + 1 = n / 2 ^ i := by omega
    rw [h3]
    omega⟩
  have hpos : 0 < n := by rw [hq]; exact Nat.mul_pos hp (by omega)
  have hm : n - 1 = 2 ^ i * (2 * q) + (2 ^ i - 1) := by
    rw [hq, Nat.mul_add, Nat.mul_one]
    omega
  apply Nat.eq_of_testBit_eq
  intro j
  rw [Nat.testBit_and, show 18446744073709551616 - n = 2 ^ 64 - (n - 1 + 1) by omega, Nat.testBit_two_pow_sub_succ (show n - 1 < 2 ^ 64 by omega), Nat.testBit_two_pow]
  have hb : n.testBit j = if j < i then false else (2 * q + 1).testBit (j - i) := by
    rw [hq, show 2 ^ i * (2 * q + 1) = 2 ^ i * (2 * q + 1) + 0 by omega, Nat.testBit_two_pow_mul_add _ hp]
    simp
  have hc : (n - 1).testBit j = if j < i then true else (2 * q).testBit (j - i) := by
    rw [hm, Nat.testBit_two_pow_mul_add _ (by omega)]
    by_cases hj : j < i
    · rw [if_pos hj, if_pos hj, Nat.testBit_two_pow_sub_one]; simpa using hj
    · rw [if_neg hj, if_neg hj]
  rw [hb, hc]
  by_cases hj : j < i
  · have : ¬ i = j := by omega
    simp [hj, this]
  · rw [if_neg hj, if_neg hj]
    by_cases e : i = j
    · subst e
      simp [hi]
    · obtain ⟨d, hd⟩ : ∃ d, j - i = d + 1 := ⟨j - i - 1, by omega⟩
      rw [hd, Nat.testBit_succ, Nat.testBit_succ, show (2 * q + 1) / 2 = q by omega, show 2 * q / 2 = q by omega]
      simp only [e, decide_false]
      cases q.testBit d <;> simp
theorem low_int (n i : Nat) (hn : n < 18446744073709551616) (hi : i < 64) (h1 : n.testBit i = true) (h0 : ∀ j, j < i → n.testBit j = false) :
    IntKind.u64.wrap (bits .and .u64 (n : Int) (IntKind.u64.wrap (-(n : Int))) - 1) = ((2 ^ i - 1 : Nat) : Int) := by
  have hpos : 0 < n := by
    rcases Nat.eq_zero_or_pos n with h | h
    · rw [h] at h1; simp at h1
    · exact h
  have e : IntKind.u64.wrap (-(n : Int)) = ((18446744073709551616 - n : Nat) : Int) := by rw [IntKind.wrap_u64]; omega
  have hp : 0 < 2 ^ i := Nat.two_pow_pos i
  have hl : 2 ^ i < 18446744073709551616 := Nat.pow_lt_pow_right (a := 2) (by decide) hi
  rw [e, u64_and_nat _ _ hn (by omega), low_bit n i hn hi h1 h0, IntKind.wrap_u64]
  generalize 2 ^ i = p at hp hl
  omega
theorem ones_low (i : Nat) (hi : i < 64) : onesZ ((2 ^ i - 1 : Nat) : Int) = (i : Int) := by
  simpa using below (fun i => decide (onesZ ((2 ^ i - 1 : Nat) : Int) = (i : Int))) 64 (by kernel_rfl) hi
/-- Where a word is not 0 it has a lowest bit. -/
theorem least_bit (F : Nat → Bool) (k : Nat) (h : word F k ≠ 0) : ∃ i, i < 64 ∧ F (64 * k + i) = true ∧ ∀ j, j < i → F (64 * k + j) = false := by
  have hex : ∃ i, i < 64 ∧ F (64 * k + i) = true := by
    apply Classical.byContradiction
    intro hno
    apply h
    apply Nat.eq_of_testBit_eq
    intro i
    rw [word_bit, Nat.zero_testBit]
    by_cases hi : i < 64
    · cases hF : F (64 * k + i) with
      | false => simp
      | true => exact absurd ⟨i, hi, hF⟩ hno
    · simp [hi]
  have key : ∀ n, (∃ i, i < n ∧ i < 64 ∧ F (64 * k + i) = true) → ∃ i, i < 64 ∧ F (64 * k + i) = true ∧ ∀ j, j < i → F (64 * k + j) = false := by
    intro n
    induction n with
    | zero => rintro ⟨i, hi, _⟩; omega
    | succ n ih =>
      rintro ⟨i, hi, hi6, hF⟩
      by_cases hl : ∃ i, i < n ∧ i < 64 ∧ F (64 * k + i) = true
      · exact ih hl
      · refine ⟨i, hi6, hF, fun j hj => ?_⟩
        cases hj2 : F (64 * k + j) with
        | false => rfl
        | true => exact absurd ⟨j, by omega, by omega, hj2⟩ hl
  obtain ⟨i, hi, hF⟩ := hex
  exact key 64 ⟨i, hi, hi, hF⟩
theorem word_none (F : Nat → Bool) (k : Nat) (h : word F k = 0) (i : Nat) (hi : i < 64) : F (64 * k + i) = false := by
  have := word_bit F k i
  rw [h, Nat.zero_testBit] at this
  simpa [hi] using this.symm

theorem pone_any (F : Nat → Bool) (w : World) (hG : Grp w) :
    Calls Tryd.prog 17 #[tab F] w fun e w' => ((∃ x, x < 256 ∧ F x = true ∧ (∀ y, y < x → F y = false) ∧ e = .returned (.tuple #[.int .u8 (x : Int), .bool true])) ∨ ((∀ y, y < 256 → F y = false) ∧ e = .returned (.tuple #[.int .u8 0, .bool false]))) ∧ Below w.heap.size w w' := by
  conv in #[tab F] => unfold tab
  have TF := IsTab.new w F
  have B0 := (Below.refl _ w).alloc (Nat.le_refl _) (.cells #[.int .u64 (word F 0 : Int), .int .u64 (word F 1 : Int), .int .u64 (word F 2 : Int), .int .u64 (word F 3 : Int)] 24)
  go_enter Tryd.func17, Tryd.ntmps17
  go_wp2_with fail
  generalize w.alloc (.cells #[.int .u64 (word F 0 : Int), .int .u64 (word F 1 : Int), .int .u64 (word F 2 : Int), .int .u64 (word F 3 : Int)] 24) = w4 at TF B0 ⊢
  have G4 := hG.kept B0
  go_loopg [7] 4 (fun g si wr => ∃ k : Nat, k + g = 4 ∧ si = .int .i64 (k : Int) ∧ (∀ y, y < 64 * k → F y = false) ∧ wr = w4)
  case atStart => exact ⟨0, by omega, rfl, fun y hy => absurd hy (by omega), rfl⟩
  case round =>
    obtain ⟨k, hk, rfl, ha, rfl⟩ := hrel
    have hK : Aside (k + gk = 4) := hk
    have hA : Aside (∀ y, y < 64 * k → F y = false) := ha
    clear hk ha
    by_cases hk9 : k < 4
    · have hk9' : (k : Int) < 4 := by omega
      have ix := index_tab F k hk9
      by_cases hz : word F k = 0
      · have hne : ((word F k : Int) != 0) = false := by simpa using hz
        have hZ : Hid (word F k = 0) := hz
        clear hz
        go_wp2_with fail
        go_roundg (gk - 1)
        case measure => have := hK.out; omega
        case rel =>
          have := hK.out
          refine ⟨k + 1, by omega, rfl, fun y hy => ?_, rfl⟩
          by_cases hy2 : y < 64 * k
          · exact hA.out y hy2
          · have h := word_none F k hZ.out (y - 64 * k) (by omega)
            rwa [show 64 * k + (y - 64 * k) = y by omega] at h
      · have hne : ((word F k : Int) != 0) = true := by simpa using hz
        obtain ⟨i, hi, hFi, hlow⟩ := least_bit F k hz
        have hL := low_int (word F k) i (word_lt F k) hi (by rw [word_bit]; simp [hi, hFi]) (fun j hj => by rw [word_bit, hlow j hj]; simp)
        have hO := ones_low i hi
        have hw0 : (0 : Int) ≤ ((2 ^ i - 1 : Nat) : Int) := Int.natCast_nonneg _
        have hw1 : ((2 ^ i - 1 : Nat) : Int) ≤ 18446744073709551615 := by
          have hl : 2 ^ i < 18446744073709551616 := Nat.pow_lt_pow_right (a := 2) (by decide) hi
          generalize 2 ^ i = p at hl
          omega
        have ho : Hid (∀ u, Grp u → Calls Tryd.prog 20 #[.int .u64 ((2 ^ i - 1 : Nat) : Int)] u fun e w' => e = .returned (.int .i64 (i : Int)) ∧ w' = u) := fun u hu => by
          have := ones_any _ u hw0 hw1 hu
          rwa [hO] at this
        have hF : Hid (F (64 * k + i) = true ∧ ∀ j, j < i → F (64 * k + j) = false) := ⟨hFi, hlow⟩
        clear hw0 hw1 hO hFi hlow hz
        generalize ((2 ^ i - 1 : Nat) : Int) = p at hL ho
        go_wp2_with (first
          | (go_at_call 20; refine (ho.out _ G4).mono ?_; rintro e w6 ⟨rfl, rfl⟩))
        go_ret2
        refine ⟨Or.inl ⟨64 * k + i, by omega, hF.out.1, fun y hy => ?_, ?_⟩, B0⟩
        · by_cases hy2 : y < 64 * k
          · exact hA.out y hy2
          · have h := hF.out.2 (y - 64 * k) (by omega)
            rwa [show 64 * k + (y - 64 * k) = y by omega] at h
        · congr 3
          simp
          omega
    · obtain rfl : k = 4 := by have := hK.out; omega
      go_wp2_with fail
      go_ret2
      exact ⟨Or.inr ⟨fun y hy => hA.out y (by omega), rfl⟩, B0⟩
end Go.Proofs.YtmfocngdobcfcabDoor
