/-
  The statements' look for a handle in a row of them; rows of handles that were told.
-/
import Derived.Test.YtdmfbfbebcneeaaOnce
namespace Go.Proofs.Ytdmfbfbebcneeaa
open Go Go.RowKit

section
variable {w : World} {g n cap : Nat} {T : Nat → Nat}
theorem place_walk (hT : ∀ i, i < n → w.cell? ⟨g, i, none⟩ = some (.int .u32 (T i : Int))) (hn : n ≤ 1000000) (h m : Nat) (hm : m ≤ n) (first : ∀ j, j < m → T j ≠ h) (hit : m < n → T m = h) :
    Calls Try.prog 26 #[.slice (some ⟨g, 0, none⟩) n cap, .int .u32 (h : Int)] w fun e w' => e = .returned (.int .i64 (if m < n then (m : Int) else -1)) ∧ w' = w := by
  obtain ⟨r, hr⟩ : ∃ r : Int, (if m < n then (m : Int) else -1) = r := ⟨_, rfl⟩
  have hrA : Aside ((if m < n then (m : Int) else -1) = r) := hr
  rw [hr]
  have hTA : Aside (∀ i, i < n → w.cell? ⟨g, i, none⟩ = some (.int .u32 (T i : Int))) := hT
  have fA : Aside (∀ j, j < m → T j ≠ h) := first
  have hitA : Aside (m < n → T m = h) := hit
  clear hr hT first hit
  go_enter Try.func26, Try.ntmps26
  go_wp2_with fail
  go_loopg [4, 5] n (fun gk s4 si wr => ∃ i : Nat, i + gk = n ∧ i ≤ m ∧ s4 = .int .i64 0 ∧ si = .int .i64 (i : Int) ∧ wr = w)
  case atStart => exact ⟨0, by omega, by omega, rfl, rfl, rfl⟩
  case round =>
    obtain ⟨i, hi, him, rfl, rfl, rfl⟩ := hrel
    have hI : Aside (i + gk = n) := hi
    clear hi
    by_cases hlt : i < n
    · have ci := hTA.out i hlt
      have hlt' : (i : Int) < (n : Int) := by omega
      by_cases e : i = m
      · subst e
        rw [hitA.out hlt] at ci
        go_wp2_with fail
        go_ret
        have := hrA.out
        rw [if_pos hlt] at this
        subst this
        exact ⟨rfl, rfl⟩
      · have hne := fA.out i (by omega)
        generalize T i = t at ci hne
        have d1 : ¬ (t : Int) = (h : Int) := by omega
        have d1' : ((t : Int) == (h : Int)) = false := by simpa using d1
        clear hne
        go_wp2_with fail
        go_roundg (gk - 1)
        case measure => have := hI.out; omega
        case rel =>
          have hi := hI.out
          exact ⟨i + 1, by omega, by omega, rfl, by go_num, rfl⟩
    · have e : ¬ m < n := by omega
      go_wp2_with fail
      go_ret
      have := hrA.out
      rw [if_neg e] at this
      subst this
      exact ⟨rfl, rfl⟩
/-- It is there. -/
theorem place_yes (hT : ∀ i, i < n → w.cell? ⟨g, i, none⟩ = some (.int .u32 (T i : Int))) (hn : n ≤ 1000000) (h : Nat) (ex : ∃ i, i < n ∧ T i = h) :
    Calls Try.prog 26 #[.slice (some ⟨g, 0, none⟩) n cap, .int .u32 (h : Int)] w fun e w' => ∃ m : Nat, e = .returned (.int .i64 (m : Int)) ∧ m < n ∧ T m = h ∧ w' = w := by
  have key : ∀ k, k ≤ n → (∃ i, i < k ∧ T i = h) → ∃ m, m < k ∧ T m = h ∧ ∀ j, j < m → T j ≠ h := by
    intro k
    induction k with
    | zero => rintro _ ⟨i, hi, _⟩; omega
    | succ k ih =>
      rintro hk ⟨i, hi, e⟩
      by_cases c : ∃ i, i < k ∧ T i = h
      · obtain ⟨m, h1, h2, h3⟩ := ih (by omega) c
        exact ⟨m, by omega, h2, h3⟩
      · refine ⟨i, hi, e, fun j hj e' => c ⟨j, by omega, e'⟩⟩
  obtain ⟨m, h1, h2, h3⟩ := key n (Nat.le_refl _) ex
  refine (place_walk hT hn h m (by omega) h3 fun _ => h2).mono ?_
  rintro e w' ⟨rfl, rfl⟩
  rw [if_pos h1]
  exact ⟨m, rfl, h1, h2, rfl⟩
theorem place_no (hT : ∀ i, i < n → w.cell? ⟨g, i, none⟩ = some (.int .u32 (T i : Int))) (hn : n ≤ 1000000) (h : Nat) (no : ∀ i, i < n → T i ≠ h) :
    Calls Try.prog 26 #[.slice (some ⟨g, 0, none⟩) n cap, .int .u32 (h : Int)] w fun e w' => e = .returned (.int .i64 (-1)) ∧ w' = w := by
  refine (place_walk hT hn h n (Nat.le_refl _) no fun e => absurd e (by omega)).mono ?_
  rintro e w' ⟨rfl, rfl⟩
  rw [if_neg (by omega)]
  exact ⟨rfl, rfl⟩
end

/-- Handles that were told: the constants, and all inner nodes, each once. -/
structure Told (M : Mdl) (n : Nat) (T : Nat → Nat) : Prop where
  len : n = M.hs.length + 2
  t0 : T 0 = 0
  t1 : T 1 = 1
  node : ∀ i, i < n → M.isNode (T i)
  all : ∀ h ∈ M.hs, ∃ i, i < n ∧ T i = h
  inner : ∀ i, 2 ≤ i → i < n → T i ∈ M.hs
section
variable {M M' : Mdl} {n : Nat} {T : Nat → Nat}
theorem Told.start (k r : Nat) : Told (Mdl.empty k r) 2 (fun i => if i = 0 then 0 else 1) :=
  ⟨rfl, rfl, rfl, fun i hi => by by_cases e : i = 0 <;> simp [e, Mdl.isNode], fun h hh => by simp [Mdl.empty] at hh, fun i h1 h2 => by omega⟩
theorem Told.some (t : Told M n T) {h : Nat} (hh : M.isNode h) : ∃ i, i < n ∧ T i = h := by
  rcases hh with e | e
  · have : h = 0 ∨ h = 1 := by omega
    rcases this with rfl | rfl
    · exact ⟨0, by rw [t.len]; omega, t.t0⟩
    · exact ⟨1, by rw [t.len]; omega, t.t1⟩
  · exact t.all h e
theorem Told.none (t : Told M n T) {h : Nat} (hh : ¬ M.isNode h) : ∀ i, i < n → T i ≠ h := fun i hi e => hh (e ▸ t.node i hi)
theorem Told.add (t : Told M n T) {x : Nat} {d : Nd} (a : M.Adds x d M') : Told M' (n + 1) (fun i => if i = n then x else T i) := by
  have l := t.len
  refine ⟨by rw [a.len]; omega, ?_, ?_, fun i hi => ?_, fun h hh => ?_, fun i h2 hi => ?_⟩
  · show (if 0 = n then x else T 0) = 0
    rw [if_neg (by omega)]; exact t.t0
  · show (if 1 = n then x else T 1) = 1
    rw [if_neg (by omega)]; exact t.t1
  · show M'.isNode (if i = n then x else T i)
    by_cases e : i = n
    · rw [if_pos e]; exact .inr a.at.1
    · rw [if_neg e]; exact a.grew.isNode (t.node i (by omega))
  · rcases (a.mem h).1 hh with e | e
    · exact ⟨n, by omega, by show (if n = n then x else T n) = h; rw [if_pos rfl, e]⟩
    · obtain ⟨i, hi, e⟩ := t.all h e
      exact ⟨i, by omega, by show (if i = n then x else T i) = h; rw [if_neg (by omega), e]⟩
  · show (if i = n then x else T i) ∈ M'.hs
    by_cases e : i = n
    · rw [if_pos e]; exact a.at.1
    · rw [if_neg e]; exact (a.grew.keep _ (t.inner i h2 (by omega))).1
end
end Go.Proofs.Ytdmfbfbebcneeaa
