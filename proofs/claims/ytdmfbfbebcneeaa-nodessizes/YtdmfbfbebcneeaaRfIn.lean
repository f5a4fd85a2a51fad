/-
  Whether a table stands in a slice of tables.
-/
import Derived.Test.YtdmfbfbebcneeaaRfRel
namespace Go.Proofs.Ytdmfbfbebcneeaa.Rf
open Go Go.RowKit

/-- A slice of tables: empty, or its cells lie one behind the other. -/
def TabsAt (w : World) (ad : Option Addr) (n : Nat) (T : Nat → Nat → Bool) : Prop :=
  n = 0 ∨ ∃ b off, ad = some ⟨b, off, none⟩ ∧ b < w.heap.size ∧ ∀ i, i < n → ∀ k, k < 4 → w.cell? ⟨b, off + i * 4 + k, none⟩ = some (.int .u64 (word (T i) k : Int))
theorem TabsAt.kept {w w' : World} {ad : Option Addr} {n : Nat} {T : Nat → Nat → Bool} (h : TabsAt w ad n T) (k : Below w.heap.size w w') : TabsAt w' ad n T := by
  rcases h with h | ⟨b, off, e, hb, hc⟩
  · exact .inl h
  · exact .inr ⟨b, off, e, Nat.lt_of_lt_of_le hb k.size, fun i hi j hj => by rw [k.cell hb]; exact hc i hi j hj⟩

theorem TabsAt.drew {w : World} {ad : Option Addr} {n : Nat} {T : Nat → Nat → Bool} (h : TabsAt w ad n T) : TabsAt w.drew ad n T := h

theorem TabsAt.get {w : World} {b off n : Nat} {T : Nat → Nat → Bool} (h : TabsAt w (some ⟨b, off, none⟩) n T) {i : Nat} (hi : i < n) : w.cell? ⟨b, off + i * 4, none⟩ = some (.int .u64 (word (T i) 0 : Int)) ∧ w.cell? ⟨b, off + i * 4 + 1, none⟩ = some (.int .u64 (word (T i) 1 : Int)) ∧ w.cell? ⟨b, off + i * 4 + 2, none⟩ = some (.int .u64 (word (T i) 2 : Int)) ∧ w.cell? ⟨b, off + i * 4 + 3, none⟩ = some (.int .u64 (word (T i) 3 : Int)) := by
  rcases h with h | ⟨b', off', e, _, hc⟩
  · omega
  · injection e with e
    injection e with e1 e2
    subst e1 e2
    exact ⟨hc i hi 0 (by decide), hc i hi 1 (by decide), hc i hi 2 (by decide), hc i hi 3 (by decide)⟩
theorem TabsAt.some {w : World} {ad : Option Addr} {n : Nat} {T : Nat → Nat → Bool} (h : TabsAt w ad n T) (hn : 0 < n) : ∃ b off, ad = .some ⟨b, off, none⟩ ∧ b < w.heap.size := by
  rcases h with h | ⟨b, off, e, hb, _⟩
  · omega
  · exact ⟨b, off, e, hb⟩

/-- Whether one of the first n is F. -/
def hasUpto (T : Nat → Nat → Bool) (F : Nat → Bool) : Nat → Bool
  | 0 => false
  | i + 1 => hasUpto T F i || same (T i) F
theorem has_of {T : Nat → Nat → Bool} {F : Nat → Bool} {i n : Nat} (hi : i < n) (h : same (T i) F = true) : hasUpto T F n = true := by
  induction n with
  | zero => omega
  | succ n ih =>
    rw [hasUpto]
    by_cases e : i = n
    · subst e; simp [h]
    · simp [ih (by omega)]

set_option maxHeartbeats 800000 in
theorem in_any (ad : Option Addr) (n cap : Nat) (T : Nat → Nat → Bool) (F : Nat → Bool) (hn : n ≤ 1000000) (w : World) (h : TabsAt w ad n T) :
    Calls Try.prog 54 #[.slice ad n cap, tab F] w fun e w' => e = .returned (.bool (hasUpto T F n)) ∧ Below w.heap.size w w' := by
  conv in #[Value.slice ad n cap, tab F] => unfold tab
  go_enter Try.func54, Try.ntmps54
  go_wp2_with fail
  have TF := IsTab.new w F
  have B0 := (Below.refl _ w).alloc (Nat.le_refl _) (.cells #[.int .u64 (word F 0 : Int), .int .u64 (word F 1 : Int), .int .u64 (word F 2 : Int), .int .u64 (word F 3 : Int)] 46)
  have hA := h.kept B0
  generalize w.alloc (.cells #[.int .u64 (word F 0 : Int), .int .u64 (word F 1 : Int), .int .u64 (word F 2 : Int), .int .u64 (word F 3 : Int)] 46) = w4 at TF B0 hA ⊢
  go_loopg [5] n (fun g si wr => ∃ k : Nat, k + g = n ∧ si = .int .i64 (k : Int) ∧ hasUpto T F k = false ∧ IsTab wr w.heap.size F ∧ TabsAt wr ad n T ∧ Below w.heap.size w wr)
  case atStart => exact ⟨0, by omega, rfl, rfl, TF, hA, B0⟩
  case round =>
    clear TF hA B0
    obtain ⟨k, hk, rfl, hs, hF, hA, hB⟩ := hrel
    have hK : Aside (k + gk = n) := hk
    have hS : Aside (hasUpto T F k = false) := hs
    clear hk hs
    by_cases hk9 : k < n
    · have hA0 := hA
      rcases hA with h0 | ⟨b, off, rfl, hb, hc⟩
      · omega
      · have hk9' : (k : Int) < (n : Int) := by omega
        obtain ⟨c0, c1, c2, c3⟩ := hF.copy
        have d0 : wr.cell? ⟨b, off + k * 4, none⟩ = some (.int .u64 (word (T k) 0 : Int)) := hc k hk9 0 (by decide)
        have d1 := hc k hk9 1 (by decide)
        have d2 := hc k hk9 2 (by decide)
        have d3 := hc k hk9 3 (by decide)
        have heq : ∀ w, (Op.equalIn 10000 46 (tab (T k)) (tab F)).run Try.prog w = .ok (same (T k) F) w := fun w => equal_tab _ _ w
        have hU : Aside (hasUpto T F (k + 1) = (hasUpto T F k || same (T k) F)) := rfl
        unfold tab at heq
        cases hm : same (T k) F with
        | true =>
          have hm' : Aside (same (T k) F = true) := hm
          simp only [hm] at heq
          clear hm
          go_wp2_with fail
          go_region
          go_wp2_with fail
          go_ret
          exact ⟨by rw [has_of hk9 hm'.out]; rfl, hB.drew⟩
        | false =>
          have hm' : Aside (same (T k) F = false) := hm
          simp only [hm] at heq
          clear hm
          go_wp2_with fail
          go_region
          go_wp2_with fail
          go_roundg (gk - 1)
          case measure => have := hK.out; omega
          case rel =>
            have := hK.out
            exact ⟨k + 1, by omega, rfl, by rw [hU.out, hS.out, hm'.out]; rfl, hF.drew, hA0.drew, hB.drew⟩
    · obtain rfl : k = n := by have := hK.out; omega
      go_wp2_with fail
      go_ret
      exact ⟨by rw [hS.out]; rfl, hB⟩
end Go.Proofs.Ytdmfbfbebcneeaa.Rf
