/-
  What holds of finders and slots whatever turns are taken: who made what, who is done when. No program is walked here.
-/
import Derived.Test.YtnekhfpccmnaiaaEnded
namespace Go.Proofs.Ytnekhfpccmnaiaa
open Go Go.RowKit

theorem nxt_made {n : Nat} {x : Int} {S : Fd} (h : ¬ (S.st = 2 ∧ x = 0)) : (S.nxt n x).made = S.made := by
  unfold Fd.nxt
  split
  · rfl
  · split
    · split
      · rfl
      · split <;> rfl
    · split
      next h2 =>
        split
        next h0 => exact absurd ⟨h2, h0⟩ h
        next => rfl
      next => split <;> rfl
theorem Made.step {n m : Nat} {Ss : Nat → Fd} {t : Nat → Int} (h : Made n m Ss t) (g : Good n t) (fi : ∀ a, a < m → FI n t (Ss a)) (hn : 1 ≤ n) {k : Nat} (hk : k < m) : Made n m (setS Ss k ((Ss k).nxt n (t (Ss k).slot))) ((Ss k).after t) := by
  by_cases c : (Ss k).st = 2 ∧ t (Ss k).slot = 0
  · have fk := fi k hk
    obtain ⟨hl, _, hm⟩ := fk.going (by omega)
    have e : (Ss k).nxt n (t (Ss k).slot) = (Ss k).put := by unfold Fd.nxt; rw [if_neg (by omega), if_neg (by omega), if_pos c.1, if_pos c.2]
    have ea : (Ss k).after t = upd t (Ss k).slot (Ss k).key := by unfold Fd.after; rw [if_pos c]
    have no : ∀ a, a < m → (Ss a).made = true → ¬ (Ss a).key = (Ss k).key := by
      intro a ha hma hka
      obtain ⟨_, hla, hta⟩ := (fi a ha).found ((fi a ha).made hma)
      exact fk.fresh g (by omega) c.2 ((fi a ha).slot_lt hn hla) (by rw [hta]; exact hka)
    rw [e, ea]
    constructor
    · intro a b ha hb hma hmb hab
      by_cases da : a = k
      · by_cases db : b = k
        · omega
        · rw [setS_other _ _ db] at hmb hab
          rw [da, setS_same] at hab
          exact absurd hab.symm (no b hb hmb)
      · by_cases db : b = k
        · rw [setS_other _ _ da] at hma hab
          rw [db, setS_same] at hab
          exact absurd hab (no a ha hma)
        · rw [setS_other _ _ da] at hma hab
          rw [setS_other _ _ db] at hmb hab
          exact h.one a b ha hb hma hmb hab
    · intro s hs hz
      by_cases d : s = (Ss k).slot
      · refine ⟨k, hk, by rw [setS_same]; rfl, ?_⟩
        rw [setS_same, d, upd_same]
        rfl
      · rw [upd_other _ _ d] at hz ⊢
        obtain ⟨a, ha, hma, hka⟩ := h.some_ s hs hz
        have dk : a ≠ k := fun q => by rw [q, hm] at hma; cases hma
        exact ⟨a, ha, by rw [setS_other _ _ dk]; exact hma, by rw [setS_other _ _ dk]; exact hka⟩
  · have ea : (Ss k).after t = t := by unfold Fd.after; rw [if_neg c]
    have em := nxt_made (n := n) c
    have ek := nxt_key (n := n) (S := Ss k) (t (Ss k).slot)
    generalize (Ss k).nxt n (t (Ss k).slot) = S' at em ek
    have mk : ∀ a, (setS Ss k S' a).made = (Ss a).made := fun a => by
      by_cases d : a = k
      · rw [d, setS_same, em]
      · rw [setS_other _ _ d]
    have kk : ∀ a, (setS Ss k S' a).key = (Ss a).key := fun a => by
      by_cases d : a = k
      · rw [d, setS_same, ek]
      · rw [setS_other _ _ d]
    rw [ea]
    constructor
    · intro a b ha hb hma hmb hab
      rw [mk] at hma hmb
      rw [kk, kk] at hab
      exact h.one a b ha hb hma hmb hab
    · intro s hs hz
      obtain ⟨a, ha, hma, hka⟩ := h.some_ s hs hz
      exact ⟨a, ha, by rw [mk]; exact hma, by rw [kk]; exact hka⟩
theorem Made.start (n m : Nat) {Ss : Nat → Fd} (h : ∀ a, a < m → (Ss a).made = false) : Made n m Ss (fun _ => 0) :=
  ⟨fun a _ ha _ hma => (by rw [h a ha] at hma; cases hma), fun _ _ hz => absurd rfl hz⟩

/-- How often finder a was next before turn j, of m. -/
def times (m a j : Nat) : Nat := (j + m - 1 - a) / m
theorem times_succ {m a : Nat} (j : Nat) (ha : a < m) : times m a (j + 1) = times m a j + if j % m = a then 1 else 0 := by
  unfold times
  have hr := Nat.mod_lt j (show 0 < m by omega)
  have hj := Nat.div_add_mod j m
  generalize j / m = q at hj
  generalize hrr : j % m = r at hj hr
  have f : ∀ x, (m * q + x) / m = q + x / m := fun x => Nat.mul_add_div (by omega) q x
  have e1 : j + 1 + m - 1 - a = m * q + (r + m - a) := by omega
  have e2 : j + m - 1 - a = m * q + (r + m - 1 - a) := by omega
  rw [e1, e2, f, f]
  by_cases c : r = a
  · subst c
    rw [if_pos rfl, show r + m - r = m by omega, Nat.div_self (by omega), Nat.div_eq_of_lt (by omega)]
  · rw [if_neg c]
    by_cases d : r < a
    · rw [Nat.div_eq_of_lt (show r + m - a < m by omega), Nat.div_eq_of_lt (show r + m - 1 - a < m by omega)]
    · have g : ∀ x, m ≤ x → x < 2 * m → x / m = 1 := fun x h1 h2 => by
        rw [Nat.div_eq_sub_div (by omega) h1, Nat.div_eq_of_lt (by omega)]
      rw [g _ (by omega) (by omega), g _ (by omega) (by omega)]
theorem times_more {m a : Nat} (j c : Nat) (ha : a < m) : times m a (j + m * c) = times m a j + c := by
  unfold times
  rw [show j + m * c + m - 1 - a = m * c + (j + m - 1 - a) by omega, Nat.mul_add_div (by omega)]
  omega
/-- What is so of the turns behind turn j: L of them are given, then each is next in turn. -/
def Fair (n m L j : Nat) (Ss : Nat → Fd) : Prop := ∀ a, a < m → L ≤ j → (Ss a).mu = 0 ∨ (Ss a).mu + times m a j ≤ 3 * n + times m a L
theorem Fair.early {n m L j : Nat} {Ss : Nat → Fd} (h : ∀ a, a < m → (Ss a).mu ≤ 3 * n) (hj : j ≤ L) : Fair n m L j Ss := by
  intro a ha hL
  obtain rfl : j = L := by omega
  right
  have := h a ha
  omega
theorem Fair.step {n m L j : Nat} {Ss : Nat → Fd} {S : Fd} (h : Fair n m L j Ss) (hj : L ≤ j) (hS : S.mu = 0 ∨ S.mu + 1 ≤ (Ss (j % m)).mu) : Fair n m L (j + 1) (setS Ss (j % m) S) := by
  intro a ha _
  rw [times_succ j ha]
  by_cases d : a = j % m
  · rw [d, setS_same, if_pos rfl]
    have h0 := h a ha hj
    rw [d] at h0
    omega
  · rw [setS_other _ _ d, if_neg (fun e => d e.symm)]
    have := h a ha hj
    omega
theorem Fair.same {n m L j : Nat} {Ss : Nat → Fd} (h : Fair n m L j Ss) (hj : L ≤ j) (hS : (Ss (j % m)).mu = 0) : Fair n m L (j + 1) Ss := by
  intro a ha _
  rw [times_succ j ha]
  by_cases d : a = j % m
  · left; rw [d]; exact hS
  · rw [if_neg (fun e => d e.symm)]
    have := h a ha hj
    omega
theorem Fair.done {n m L : Nat} {Ss : Nat → Fd} (h : Fair n m L (L + m * (3 * n + 4)) Ss) : ∀ a, a < m → (Ss a).mu = 0 := by
  intro a ha
  rcases h a ha (by omega) with e | e
  · exact e
  · rw [times_more L _ ha] at e
    omega
end Go.Proofs.Ytnekhfpccmnaiaa
