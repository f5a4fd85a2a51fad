/-
  A finder that steps while nobody else does: what it comes to. The keys of TableEach. No program is walked here.
-/
import Derived.Test.YtnekhfpccmnaiaaKnown
namespace Go.Proofs.Ytnekhfpccmnaiaa
open Go Go.RowKit

/-- What stands behind some steps of one finder alone, from the slots t0 on. -/
def Solo (n : Nat) (t0 t : Nat → Int) (S : Fd) : Prop :=
  (S.made = false ∧ t = t0) ∨ (S.made = true ∧ S.st = 0 ∧ S.slot < n ∧ t0 S.slot = 0 ∧ t = upd t0 S.slot S.key)

section
variable {n : Nat} {t0 t : Nat → Int} {S : Fd}
theorem Solo.start (n : Nat) (t0 : Nat → Int) (k : Int) : Solo n t0 t0 (Fd.start n k) := .inl ⟨rfl, rfl⟩
theorem Solo.step (h : Solo n t0 t S) (f : FI n t S) (hn : 1 ≤ n) : Solo n t0 (S.after t) (S.nxt n (t S.slot)) := by
  rcases h with ⟨hm, rfl⟩ | ⟨hm, hs, hl, h0, ht⟩
  · by_cases c : S.st = 2 ∧ t S.slot = 0
    · obtain ⟨hl, _⟩ := f.going (by omega)
      have e : S.nxt n (t S.slot) = S.put := by unfold Fd.nxt; rw [if_neg (by omega), if_neg (by omega), if_pos c.1, if_pos c.2]
      rw [e]
      refine .inr ⟨rfl, rfl, f.slot_lt hn hl, c.2, ?_⟩
      unfold Fd.after
      rw [if_pos c]
      rfl
    · refine .inl ⟨?_, by unfold Fd.after; rw [if_neg c]⟩
      unfold Fd.nxt
      split
      · exact hm
      · split
        · split
          · exact hm
          · split <;> exact hm
        · split
          · split
            next h2 h0 => exact absurd ⟨h2, h0⟩ c
            next => exact hm
          · split <;> exact hm
  · rw [nxt_done _ hs, after_done t hs]
    exact .inr ⟨hm, hs, hl, h0, ht⟩
/-- A key that is there is found. -/
theorem Solo.there (h : Solo n t0 t S) (f : FI n t S) (g : Good n t) (hs : S.st = 0) {s : Nat} (hsn : s < n) (e : t0 s = S.key) : S.found = true ∧ S.made = false ∧ t = t0 := by
  rcases h with ⟨hm, rfl⟩ | ⟨hm, _, hl, h0, ht⟩
  · refine ⟨?_, hm, rfl⟩
    cases hf : S.found with
    | true => rfl
    | false => exact absurd e (f.all hs hf s hsn).2
  · exfalso
    have hne : s ≠ S.slot := fun d => by rw [d, h0] at e; exact f.key e.symm
    have e1 : t s = S.key := by rw [ht, upd_other _ _ hne]; exact e
    have e2 : t S.slot = S.key := by rw [ht]; exact upd_same _ _ _
    exact hne (g.one f.key hsn hl e1 e2)
/-- One that isn't is made, if there is room. -/
theorem Solo.room (h : Solo n t0 t S) (f : FI n t S) (hn : 1 ≤ n) (hs : S.st = 0) (hno : ∀ s, s < n → ¬ t0 s = S.key) (hc : cnt t0 n < n) : S.found = true ∧ S.made = true ∧ S.slot < n ∧ t0 S.slot = 0 ∧ t = upd t0 S.slot S.key := by
  rcases h with ⟨hm, rfl⟩ | ⟨hm, _, hl, h0, ht⟩
  · exfalso
    cases hf : S.found with
    | true =>
      obtain ⟨_, hl, e⟩ := f.found hf
      exact hno _ (f.slot_lt hn hl) e
    | false =>
      have := cnt_full (fun i hi => (f.all hs hf i hi).1)
      omega
  · exact ⟨f.made hm, hm, hl, h0, ht⟩
/-- Or not, if there is none. -/
theorem Solo.full (h : Solo n t0 t S) (f : FI n t S) (hn : 1 ≤ n) (hno : ∀ s, s < n → ¬ t0 s = S.key) (hc : cnt t0 n = n) : S.found = false ∧ S.made = false ∧ t = t0 := by
  rcases h with ⟨hm, rfl⟩ | ⟨hm, _, hl, h0, ht⟩
  · refine ⟨?_, hm, rfl⟩
    cases hf : S.found with
    | true =>
      obtain ⟨_, hl, e⟩ := f.found hf
      exact absurd e (hno _ (f.slot_lt hn hl))
    | false => rfl
  · exact absurd h0 (cnt_all hc _ hl)
end

/-! ## The keys of TableEach -/
def oddN (s : Nat) : Nat := s ||| 1
def keyN (s i : Nat) : Nat := oddN s * (2 * i + 1) % 18446744073709551616
theorem or_one (s : Nat) : s ||| 1 = if s % 2 = 1 then s else s + 1 := by
  have h1 : (s ||| 1) / 2 = s / 2 := by
    have := Nat.or_div_two (a := s) (b := 1)
    simpa using this
  have h2 : (s ||| 1) % 2 = 1 := by
    have := Nat.or_mod_two_eq_one (a := s) (b := 1)
    simp [this]
  split <;> omega
theorem oddN_odd (s : Nat) : oddN s % 2 = 1 := by unfold oddN; rw [or_one]; split <;> omega
theorem oddN_lt (s : Nat) (h : s < 18446744073709551616) : oddN s < 18446744073709551616 := by unfold oddN; rw [or_one]; split <;> omega
theorem keyN_odd (s i : Nat) : keyN s i % 2 = 1 := by
  unfold keyN
  have h := oddN_odd s
  have e : oddN s * (2 * i + 1) % 2 = 1 := by rw [Nat.mul_mod, h]; omega
  omega
theorem keyN_lt (s i : Nat) : keyN s i < 18446744073709551616 := Nat.mod_lt _ (by decide)
theorem keyN_ne (s : Nat) {i j : Nat} (hij : i < j) (hj : j < 1000) : keyN s i ≠ keyN s j := by
  intro e
  unfold keyN at e
  have h := oddN_odd s
  generalize oddN s = a at e h
  have hd : 18446744073709551616 ∣ a * (2 * j + 1) - a * (2 * i + 1) := Nat.dvd_of_mod_eq_zero (Nat.sub_mod_eq_zero_of_mod_eq e.symm)
  rw [← Nat.mul_sub, show 2 * j + 1 - (2 * i + 1) = 2 * (j - i) by omega] at hd
  have hc : Nat.Coprime 18446744073709551616 a := by
    rw [show (18446744073709551616 : Nat) = 2 ^ 64 by decide]
    apply Nat.Coprime.pow_left
    rw [Nat.Coprime, Nat.gcd_rec, h]
    rfl
  have := hc.dvd_of_dvd_mul_left hd
  have := Nat.le_of_dvd (by omega) this
  omega
theorem key_form (s : Nat) (i : Nat) (hs : s < 18446744073709551616) :
    bits .or .u64 (IntKind.u64.wrap (bits .or .u64 (s : Int) 1 * (2 * (i : Int) + 1))) 1 = ((keyN s i : Nat) : Int) := by
  have e1 : bits .or .u64 (s : Int) 1 = ((oddN s : Nat) : Int) := u64_or_nat s 1 hs (by decide)
  rw [e1]
  have e2 := mul_form (oddN s) (2 * i + 1)
  have e3 : ((oddN s : Nat) : Int) * (2 * (i : Int) + 1) = ((oddN s : Nat) : Int) * ((2 * i + 1 : Nat) : Int) := by push_cast; rfl
  rw [e3, e2]
  have e4 := u64_or_nat (keyN s i) 1 (keyN_lt s i) (by decide)
  have e5 : keyN s i ||| 1 = keyN s i := by rw [or_one, if_pos (keyN_odd s i)]
  rw [e5] at e4
  exact e4
end Go.Proofs.Ytnekhfpccmnaiaa
