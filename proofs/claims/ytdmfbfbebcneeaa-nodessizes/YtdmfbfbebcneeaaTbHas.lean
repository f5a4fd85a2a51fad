/-
  What Has and Clear do.
-/
import Derived.Test.YtdmfbfbebcneeaaTbFace
namespace Go.Proofs.Ytdmfbfbebcneeaa.Tb
open Go Go.RowKit

section
variable {w w' : World} {P R N T base n F : Nat} {c : Nat → Int} {ops fails : Int} {S : Fd}

/-- What Has tells of a key. -/
def Told (n : Nat) (t : Nat → Int) (k : Int) (y : Int) (ok : Bool) : Prop :=
  (ok = true ∧ ∃ s : Nat, s < n ∧ y = (s : Int) ∧ t s = k) ∨ (ok = false ∧ y = -1 ∧ (¬ k = 0 → ∀ s, s < n → ¬ t s = k))

theorem has_any (h : Sys w P R N T base n c ops fails) (t : Nat → Int) (ht : ∀ i, c (base + i) = t i) (k : Int) (h0 : 0 ≤ k) (h1 : k ≤ 18446744073709551615) (g : Good n t) :
    Calls Try.prog 61 #[.pointer (some ⟨T, 19, none⟩), .int .u64 k] w fun e w' => ∃ (y : Int) (ok : Bool), e = .returned (.tuple #[.int .i64 y, .bool ok]) ∧ Told n t k y ok ∧ (∃ o', Sys w' P R N T base n c o' fails) ∧ Moved P R w w' := by
  have t2 := h.t2
  have hp := h.pos
  have hN : n ≤ 262144 := by have := h.room; have := h.small; omega
  have htA : Aside (∀ i, c (base + i) = t i) := ht
  clear ht
  have K := home_any k n w h0 h1 h.pos hN
  rw [← place_zero k hp] at K
  go_enter Try.func61, Try.ntmps61
  go_wp2_with (first
    | (go_at_call 75; refine K.mono ?_; clear K; rintro e w ⟨rfl, rfl⟩))
  go_loopg [6, 17] n (fun g ss si wr => ∃ (j : Nat) (o : Int), j + g = n ∧ ss = .int .i64 ((place n k j : Nat) : Int) ∧ si = .int .i64 (j : Int) ∧ (∀ i, i < j → ¬ k = 0 → ¬ t (place n k i) = k) ∧ Sys wr P R N T base n c o fails ∧ Moved P R w wr)
  case atStart => exact ⟨0, ops, by omega, rfl, rfl, (fun i hi => by omega), h, Moved.refl _ _ _⟩
  case round =>
    obtain ⟨j, o, hj, rfl, rfl, hno, H, M⟩ := hrel
    have hJ : Aside (j + gk = n) := hj
    have hNo : Aside (∀ i, i < j → ¬ k = 0 → ¬ t (place n k i) = k) := hno
    clear hj hno
    by_cases hjn : j < n
    · have hpl := place_lt k j hp
      have K := load_any H (place n k j) hpl
      rw [htA.out] at K
      have hlt : (j : Int) < (n : Int) := by omega
      have hX : Aside (t (place n k j) = t (place n k j)) := rfl
      have hB : Aside ((place n k j + 1) % n = place n k (j + 1)) := place_next k j
      have hS : Aside (place n k j = place n k j) := rfl
      by_cases hx : t (place n k j) = 0
      · rw [hx] at K
        have hxA : Aside (t (place n k j) = 0) := hx
        clear hX hx
        generalize hs : place n k j = s at K hpl
        have hsA : Aside (place n k j = s) := hs
        clear hs
        go_wp2_with (first
          | (go_at_call 76; refine K.mono ?_; clear K; rintro e w1 ⟨rfl, h1, b1⟩))
        go_ret2
        refine ⟨_, _, rfl, .inr ⟨rfl, rfl, fun hk s hs e => ?_⟩, ⟨_, h1⟩, M.trans b1⟩
        obtain ⟨i, hi, rfl⟩ := place_onto k hs
        rcases Nat.lt_trichotomy i j with d | d | d
        · exact hNo.out i d hk e
        · rw [d, hxA.out] at e; exact hk e.symm
        · exact (g k i hk hi e j d).1 hxA.out
      · by_cases hk : t (place n k j) = k
        · rw [hk] at K hx
          have hkA : Aside (t (place n k j) = k) := hk
          have hd : (k == 0) = false := by simpa using hx
          have hd2 : (k == k) = true := by simp
          clear hX hk
          generalize hs : place n k j = s at K hpl
          have hsA : Aside (place n k j = s) := hs
          clear hs
          go_wp2_with (first
            | (go_at_call 76; refine K.mono ?_; clear K; rintro e w1 ⟨rfl, h1, b1⟩))
          go_ret2
          exact ⟨_, _, rfl, .inl ⟨rfl, s, hpl, rfl, by rw [← hsA.out]; exact hkA.out⟩, ⟨_, h1⟩, M.trans b1⟩
        · have hkA : Aside (¬ t (place n k j) = k) := hk
          clear hX hS
          generalize t (place n k j) = x at K hk hx
          have hd : (x == 0) = false := by simpa using hx
          have hd2 : (x == k) = false := by simpa using hk
          have hsA : Aside (place n k j = place n k j) := rfl
          generalize hs : place n k j = s at K hpl hB
          clear hsA
          have hsA : Aside (place n k j = s) := hs
          clear hs
          go_wp2_with (first
            | (go_at_call 76; refine K.mono ?_; clear K; rintro e w1 ⟨rfl, h1, b1⟩; have K2 := behind_any h1 s hpl; rw [hB.out] at K2)
            | (go_at_call 77; refine K2.mono ?_; clear K2; rintro e w1 ⟨rfl, rfl⟩))
          go_roundg (gk - 1)
          case measure => have := hJ.out; omega
          case rel =>
            have hj := hJ.out
            refine ⟨j + 1, _, by omega, rfl, rfl, fun i hi hk0 => ?_, h1, M.trans b1⟩
            by_cases d : i = j
            · rw [d]; exact hkA.out
            · exact hNo.out i (by omega) hk0
    · obtain rfl : j = n := by have := hJ.out; omega
      go_wp2_with fail
      go_ret2
      refine ⟨_, _, rfl, .inr ⟨rfl, rfl, fun hk s hs e => ?_⟩, ⟨o, H⟩, M⟩
      obtain ⟨i, hi, rfl⟩ := place_onto k hs
      exact hNo.out i hi hk e

end
end Go.Proofs.Ytdmfbfbebcneeaa.Tb
