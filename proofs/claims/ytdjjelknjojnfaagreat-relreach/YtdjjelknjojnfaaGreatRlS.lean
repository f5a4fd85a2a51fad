/-
  States, pairs of states, chains of states, without a program.
-/
import Derived.Test.YtdjjelknjojnfaaGreatRlQ
namespace Go.Proofs.YtdjjelknjojnfaaGreat
open Rf (fixAt fixF halfN nextF prevF evN)

theorem or_t {a b : Bool} : (a || b) = true ↔ a = true ∨ b = true := by cases a <;> cases b <;> simp
theorem and_t {a b : Bool} : (a && b) = true ↔ a = true ∧ b = true := by cases a <;> cases b <;> simp
theorem nx_half (F G : Nat → Bool) (x : Nat) : nextF F G x = true ↔ ∃ y, y < 256 ∧ F y = true ∧ G y = true ∧ halfN (y / 2) = halfN x := by
  unfold nextF
  rw [odd_iff]
  exact ⟨fun ⟨y, a, b, c, d⟩ => ⟨y, a, b, c, d.symm⟩, fun ⟨y, a, b, c, d⟩ => ⟨y, a, b, c, d.symm⟩⟩
theorem ev_half (y : Nat) (hy : y < 256) : halfN (evN y) = halfN (y / 2) := by
  have h := below16 (n := y) (fun y => halfN (evN y) == halfN (y / 2)) 256 (by kernel_rfl) hy
  simpa using h
/-- The assignment of a pair. -/
def jnN (a b : Nat) : Nat := spN a + 2 * spN b
theorem jn_lt (a b : Nat) : jnN a b < 256 := by unfold jnN spN; omega
theorem jn_half (a b : Nat) (ha : a < 16) (hb : b < 16) : halfN (jnN a b) = a ∧ halfN (jnN a b / 2) = b := by
  have h := below16 (n := a) (fun a => (List.range 16).all fun b => halfN (jnN a b) == a && halfN (jnN a b / 2) == b) 16 (by kernel_rfl) ha
  have := below16 (n := b) (fun b => halfN (jnN a b) == a && halfN (jnN a b / 2) == b) 16 h hb
  simpa using this
theorem sp_half' (a : Nat) (ha : a < 16) : halfN (spN a) = a := by
  have := below16 (n := a) (fun a => halfN (spN a) == a) 16 (by kernel_rfl) ha
  simpa using this
theorem half2_lt (x : Nat) : halfN (x / 2) < 16 := half_lt _
/-- The state of a number; the pair of two. -/
def stF (a : Nat) : Nat → Bool := fun x => decide (halfN x = a)
def prF (a b : Nat) : Nat → Bool := fun x => decide (halfN x = a) && decide (halfN (x / 2) = b)
theorem st_iff {a x : Nat} : stF a x = true ↔ halfN x = a := decide_eq_true_iff
theorem pr_iff' {a b x : Nat} : prF a b x = true ↔ halfN x = a ∧ halfN (x / 2) = b := by
  unfold prF
  rw [Bool.and_eq_true, decide_eq_true_iff, decide_eq_true_iff]
theorem cur_half {X : Nat → Bool} (c : Cur X) {x y : Nat} (hx : x < 256) (hy : y < 256) (h : halfN x = halfN y) : X x = X y := c x y hx hy ((half_ev hx hy).1 h)
theorem st_cur (a : Nat) : Cur (stF a) := fun x y hx hy q => by
  unfold stF
  rw [(half_ev hx hy).2 q]
theorem cur_cst0 : Cur c0 := fun _ _ _ _ _ => rfl
theorem nx_pair {a b c : Nat} (ha : a < 16) (hb : b < 16) : Eqt (nextF (stF c) (prF a b)) (if c = a then stF b else c0) := fun x _ => by
  rw [Bool.eq_iff_iff, nx_half]
  constructor
  · rintro ⟨y, _, h1, h2, h3⟩
    rw [st_iff] at h1
    rw [pr_iff'] at h2
    rw [if_pos (by omega), st_iff]
    omega
  · intro h
    by_cases e : c = a
    · rw [if_pos e, st_iff] at h
      obtain ⟨j1, j2⟩ := jn_half a b ha hb
      exact ⟨jnN a b, jn_lt a b, st_iff.2 (by omega), pr_iff'.2 ⟨j1, j2⟩, by omega⟩
    · rw [if_neg e] at h
      cases h
theorem pv_pair {a b : Nat} (ha : a < 16) (hb : b < 16) : Eqt (prevF (stF b) (prF a b)) (stF a) := fun x _ => by
  unfold prevF
  rw [Bool.eq_iff_iff, pr_iff]
  constructor
  · rintro ⟨y, _, h1, h2, _⟩
    rw [pr_iff'] at h2
    rw [st_iff]
    omega
  · intro h
    rw [st_iff] at h
    obtain ⟨j1, j2⟩ := jn_half a b ha hb
    exact ⟨jnN a b, jn_lt a b, by omega, pr_iff'.2 ⟨j1, j2⟩, by rw [st_iff, ev_half _ (jn_lt a b)]; exact j2⟩
theorem st_one {a b : Nat} (ha : a < 16) (h : Eqt (stF a) (stF b)) : a = b := by
  have := h (spN a) (sp_lt a)
  rw [Bool.eq_iff_iff, st_iff, st_iff, sp_half' a ha] at this
  exact this.1 rfl
theorem st_not {a : Nat} (ha : a < 16) (h : Eqt c0 (stF a)) : False := by
  have := h (spN a) (sp_lt a)
  rw [Bool.eq_iff_iff, st_iff, sp_half' a ha] at this
  exact Bool.noConfusion (this.2 rfl)
/-! ## Laws -/
theorem ex_of {X : Nat → Bool} (h : ¬ Eqt X c0) : ∃ x, x < 256 ∧ X x = true := by
  by_cases c : ∃ x, x < 256 ∧ X x = true
  · exact c
  · refine absurd (fun x hx => ?_) h
    cases q : X x with
    | false => rfl
    | true => exact absurd ⟨x, hx, q⟩ c
theorem nx_le {P Q R : Nat → Bool} (h : ∀ x, x < 256 → P x = true → Q x = true) {x : Nat} (k : nextF P R x = true) : nextF Q R x = true := by
  rw [nx_half] at k ⊢
  obtain ⟨y, a, b, c, d⟩ := k
  exact ⟨y, a, h y a b, c, d⟩
theorem nx_or (P Q R : Nat → Bool) : Eqt (nextF (fO P Q) R) (fO (nextF P R) (nextF Q R)) := fun x _ => by
  show _ = (_ || _)
  rw [Bool.eq_iff_iff, Bool.or_eq_true, nx_half, nx_half, nx_half]
  constructor
  · rintro ⟨y, a, b, c, d⟩
    rcases or_t.1 b with b | b
    · exact .inl ⟨y, a, b, c, d⟩
    · exact .inr ⟨y, a, b, c, d⟩
  · rintro (⟨y, a, b, c, d⟩ | ⟨y, a, b, c, d⟩)
    · exact ⟨y, a, or_t.2 (.inl b), c, d⟩
    · exact ⟨y, a, or_t.2 (.inr b), c, d⟩
theorem pv_or (P R T : Nat → Bool) : Eqt (prevF P (fO R T)) (fO (prevF P R) (prevF P T)) := fun x _ => by
  show _ = (_ || _)
  unfold prevF
  rw [Bool.eq_iff_iff, Bool.or_eq_true, pr_iff, pr_iff, pr_iff]
  constructor
  · rintro ⟨y, a, b, c, d⟩
    rcases or_t.1 c with c | c
    · exact .inl ⟨y, a, b, c, d⟩
    · exact .inr ⟨y, a, b, c, d⟩
  · rintro (⟨y, a, b, c, d⟩ | ⟨y, a, b, c, d⟩)
    · exact ⟨y, a, b, or_t.2 (.inl c), d⟩
    · exact ⟨y, a, b, or_t.2 (.inr c), d⟩
theorem nx_none (R : Nat → Bool) : Eqt (nextF c0 R) c0 := fun x _ => by
  rw [Bool.eq_iff_iff, nx_half]
  exact ⟨fun ⟨y, _, b, _⟩ => Bool.noConfusion b, fun h => Bool.noConfusion h⟩
theorem pv_none (P : Nat → Bool) : Eqt (prevF P c0) c0 := fun x _ => by
  unfold prevF
  rw [Bool.eq_iff_iff, pr_iff]
  exact ⟨fun ⟨y, _, _, b, _⟩ => Bool.noConfusion b, fun h => Bool.noConfusion h⟩
/-- Some state leads to some just if something of the next ones is there, just if something of those ahead is here. -/
theorem meets {P Q R : Nat → Bool} (cP : Cur P) (cQ : Cur Q) : Eqt (fA (nextF P R) Q) c0 ↔ Eqt (fA (prevF Q R) P) c0 := by
  constructor
  · intro h x hx
    cases q : fA (prevF Q R) P x with
    | false => rfl
    | true =>
      obtain ⟨h1, h2⟩ := and_t.1 q
      unfold prevF at h1
      rw [pr_iff] at h1
      obtain ⟨y, hy, a, b, c⟩ := h1
      have e1 : nextF P R (evN y) = true := (nx_half _ _ _).2 ⟨y, hy, by rw [cur_half cP hy hx a]; exact h2, b, (ev_half y hy).symm⟩
      have := h (evN y) (evN_lt y)
      have e2 : (nextF P R (evN y) && Q (evN y)) = false := this
      rw [e1, c] at e2
      cases e2
  · intro h x hx
    cases q : fA (nextF P R) Q x with
    | false => rfl
    | true =>
      obtain ⟨h1, h2⟩ := and_t.1 q
      obtain ⟨y, hy, a, b, c⟩ := (nx_half _ _ _).1 h1
      have e1 : prevF Q R y = true := by
        unfold prevF
        rw [pr_iff]
        exact ⟨y, hy, rfl, b, by rw [cur_half cQ (evN_lt y) hx ((ev_half y hy).trans c)]; exact h2⟩
      have := h y hy
      have e2 : (prevF Q R y && P y) = false := this
      rw [e1, a] at e2
      cases e2
theorem rch_up {P R : Nat → Bool} : ∀ k {x : Nat}, P x = true → rchF P R k x = true
  | 0, _, h => h
  | k + 1, _, h => rch_le k (rch_up k h)
theorem rch_mono {P Q R : Nat → Bool} (h : ∀ x, x < 256 → P x = true → Q x = true) : ∀ k {x : Nat}, x < 256 → rchF P R k x = true → rchF Q R k x = true
  | 0, x, hx, q => h x hx q
  | k + 1, x, hx, q => by
    rcases or_t.1 q with q | q
    · exact rch_le k (rch_mono h k hx q)
    · exact or_t.2 (.inr (nx_le (fun y hy r => rch_mono h k hy r) q))
/-- All rounds from the last one on are the last one. -/
theorem Rnd.far {X R : Nat → Bool} {k : Nat} (h : Rnd X R k) {j : Nat} (hj : k ≤ j) : Eqt (rchF X R j) (rchF X R k) := by
  obtain ⟨d, rfl⟩ : ∃ d, j = k + d := ⟨j - k, by omega⟩
  exact rch_stay h.stop d
/-- What follows from what is reached is reached. -/
theorem Rnd.closed {X R : Nat → Bool} {k : Nat} (h : Rnd X R k) {x : Nat} (hx : x < 256) (q : nextF (rchF X R k) R x = true) : rchF X R k x = true := by
  rw [← h.stop x hx]
  exact or_t.2 (.inr q)
theorem Rnd.again {X R : Nat → Bool} {k : Nat} (h : Rnd X R k) : Rnd (rchF X R k) R 0 := ⟨fun j hj => absurd hj (by omega), h.stop⟩
theorem Rnd.more {P Q R : Nat → Bool} {k j : Nat} (h : Rnd P R k) (g : Rnd Q R j) (l : ∀ x, x < 256 → P x = true → Q x = true) {x : Nat} (hx : x < 256) (q : rchF P R k x = true) : rchF Q R j x = true := by
  rw [← h.far (Nat.le_max_left k j) x hx] at q
  rw [← g.far (Nat.le_max_right k j) x hx]
  exact rch_mono l _ hx q
theorem and_le {X Y : Nat → Bool} (h : ∀ x, x < 256 → X x = true → Y x = true) : Eqt (fA X Y) X := fun x hx => by
  show (X x && Y x) = X x
  cases c : X x with
  | false => rfl
  | true => rw [h x hx c]; rfl
/-! ## Chains -/
/-- The pairs of the first so many of a chain; its first so many states. -/
def relC (c : Nat → Nat) : Nat → Nat → Bool
  | 0 => c0
  | 1 => c0
  | k + 2 => fO (relC c (k + 1)) (prF (c k) (c (k + 1)))
def allC (c : Nat → Nat) : Nat → Nat → Bool
  | 0 => c0
  | k + 1 => fO (allC c k) (stF (c k))
theorem allC_iff (c : Nat → Nat) (x : Nat) : ∀ m, allC c m x = true ↔ ∃ i, i < m ∧ halfN x = c i
  | 0 => ⟨fun h => Bool.noConfusion h, fun ⟨i, h, _⟩ => absurd h (by omega)⟩
  | m + 1 => by
    show (allC c m x || stF (c m) x) = true ↔ _
    rw [Bool.or_eq_true, allC_iff c x m, st_iff]
    constructor
    · rintro (⟨i, h, e⟩ | e)
      · exact ⟨i, by omega, e⟩
      · exact ⟨m, by omega, e⟩
    · rintro ⟨i, h, e⟩
      by_cases q : i = m
      · subst q; exact .inr e
      · exact .inl ⟨i, by omega, e⟩
theorem relC_iff (c : Nat → Nat) (x : Nat) : ∀ m, relC c m x = true ↔ ∃ i, i + 1 < m ∧ halfN x = c i ∧ halfN (x / 2) = c (i + 1)
  | 0 => ⟨fun h => Bool.noConfusion h, fun ⟨i, h, _⟩ => absurd h (by omega)⟩
  | 1 => ⟨fun h => Bool.noConfusion h, fun ⟨i, h, _⟩ => absurd h (by omega)⟩
  | m + 2 => by
    show (relC c (m + 1) x || prF (c m) (c (m + 1)) x) = true ↔ _
    rw [Bool.or_eq_true, relC_iff c x (m + 1), pr_iff']
    constructor
    · rintro (⟨i, h, e⟩ | e)
      · exact ⟨i, by omega, e⟩
      · exact ⟨m, by omega, e⟩
    · rintro ⟨i, h, e⟩
      by_cases q : i = m
      · subst q; exact .inr e
      · exact .inl ⟨i, by omega, e⟩
theorem rch_chain {c : Nat → Nat} {m : Nat} (h16 : ∀ i, i < m → c i < 16) (inj : ∀ i j, i < m → j < m → c i = c j → i = j) : ∀ k, k < m → Eqt (rchF (stF (c 0)) (relC c m) k) (allC c (k + 1))
  | 0, _ => fun x _ => rfl
  | k + 1, hk => fun x hx => by
    have ih := rch_chain h16 inj k (by omega)
    show (_ || _) = _
    rw [ih x hx, nx_congr ih (Eqt.refl _) x hx, Bool.eq_iff_iff, Bool.or_eq_true, allC_iff, allC_iff, nx_half]
    constructor
    · rintro (⟨i, h, e⟩ | ⟨y, _, h1, h2, h3⟩)
      · exact ⟨i, by omega, e⟩
      · obtain ⟨i, hi, e⟩ := (allC_iff _ _ _).1 h1
        obtain ⟨j, hj, e1, e2⟩ := (relC_iff _ _ _).1 h2
        have := inj i j (by omega) (by omega) (by omega)
        exact ⟨j + 1, by omega, by omega⟩
    · rintro ⟨i, hi, e⟩
      by_cases q : i = k + 1
      · subst q
        obtain ⟨j1, j2⟩ := jn_half (c k) (c (k + 1)) (h16 _ (by omega)) (h16 _ hk)
        exact .inr ⟨jnN (c k) (c (k + 1)), jn_lt _ _, (allC_iff _ _ _).2 ⟨k, by omega, j1⟩, (relC_iff _ _ _).2 ⟨k, hk, j1, j2⟩, by omega⟩
      · exact .inl ⟨i, by omega, e⟩
theorem chain_rnd {c : Nat → Nat} {m : Nat} (hm : 0 < m) (h16 : ∀ i, i < m → c i < 16) (inj : ∀ i j, i < m → j < m → c i = c j → i = j) : Rnd (stF (c 0)) (relC c m) (m - 1) := by
  refine ⟨fun j hj e => ?_, fun x hx => ?_⟩
  · have h1 := rch_chain h16 inj j (by omega) (spN (c (j + 1))) (sp_lt _)
    have h2 := rch_chain h16 inj (j + 1) (by omega) (spN (c (j + 1))) (sp_lt _)
    rw [← e _ (sp_lt _), h2, Bool.eq_iff_iff, allC_iff, allC_iff, sp_half' _ (h16 _ (by omega))] at h1
    obtain ⟨i, hi, e⟩ := h1.1 ⟨j + 1, by omega, rfl⟩
    have := inj (j + 1) i (by omega) (by omega) e
    omega
  · have ih := rch_chain h16 inj (m - 1) (by omega)
    show (_ || _) = _
    rw [ih x hx, nx_congr ih (Eqt.refl _) x hx, Bool.eq_iff_iff, Bool.or_eq_true, allC_iff, nx_half, show m - 1 + 1 = m by omega]
    constructor
    · rintro (h | ⟨y, _, h1, h2, h3⟩)
      · exact h
      · obtain ⟨j, hj, e1, e2⟩ := (relC_iff _ _ _).1 h2
        exact ⟨j + 1, by omega, by omega⟩
    · exact .inl
theorem chain_all {c : Nat → Nat} {m : Nat} (hm : 0 < m) (h16 : ∀ i, i < m → c i < 16) (inj : ∀ i j, i < m → j < m → c i = c j → i = j) : Eqt (rchF (stF (c 0)) (relC c m) (m - 1)) (allC c m) := by
  have := rch_chain h16 inj (m - 1) (by omega)
  rwa [show m - 1 + 1 = m by omega] at this
end Go.Proofs.YtdjjelknjojnfaaGreat
