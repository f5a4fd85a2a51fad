/-
  An owner that pops and thieves that reach for the last value, without a program: just one of them gets it.
-/
import Derived.Test.YtfpgdmnbehingaaConc
namespace Go.Proofs.Ytfpgdmnbehingaa
open Go Go.RowKit

/-- Act i (act 0 is the owner's) has got a value. -/
def hold (i : Nat) (S : Ac) : Prop := (S.st = 0 ∨ i = 0 ∧ S.st = 9) ∧ S.got = true
structure LastI (m : Nat) (c : Nat → Int) (Ss : Nat → Ac) : Prop where
  fit : ∀ i, i < m → Fit (Ss i)
  u64 : U64 c
  pop : (Ss 0).st = 0 ∨ 5 ≤ (Ss 0).st
  conc : ∃ F T V, Conc 0 4 c F T V (Ss 0) (m - 1) (fun i => Ss (i + 1)) ∧ V 0 = 42 ∧
    ((F = 0 ∧ T = 1 ∧ ∀ i, i < m → ¬ hold i (Ss i)) ∨ (F = T ∧ T ≤ 1 ∧ ∃ i0, i0 < m ∧ hold i0 (Ss i0) ∧ (Ss i0).value = 42 ∧ ∀ i, i < m → i ≠ i0 → ¬ hold i (Ss i)))

section
variable {m : Nat} {c : Nat → Int} {Ss : Nat → Ac}
theorem setS_shift (Ss : Nat → Ac) (k : Nat) (S : Ac) : (fun i => setS Ss (k + 1) S (i + 1)) = setS (fun i => Ss (i + 1)) k S := by
  funext i
  by_cases d : i = k
  · subst d; rw [setS_same, setS_same]
  · rw [setS_other _ _ d, setS_other _ _ (by omega)]
theorem LastI.step (h : LastI m c Ss) {k : Nat} (hk : k < m) (hm : 1 ≤ m) : LastI m ((Ss k).after 0 4 c) (setS Ss k ((Ss k).nxt 0 4 c)) := by
  by_cases h0 : (Ss k).st = 0
  · rw [nxt0 h0, after_same (.inl h0)]
    have e : setS Ss k (Ss k) = Ss := by
      funext i
      by_cases d : i = k
      · rw [d, setS_same]
      · rw [setS_other _ _ d]
    rw [e]
    exact h
  obtain ⟨F, T, V, C, hV, hw⟩ := h.conc
  have fit' : ∀ i, i < m → Fit (setS Ss k ((Ss k).nxt 0 4 c) i) := fun i hi => by
    by_cases d : i = k
    · rw [d, setS_same]; exact (h.fit k hk).step h.u64
    · rw [setS_other _ _ d]; exact h.fit i hi
  have u' := h.u64.step (b := 0) (n := 4) (h.fit k hk)
  by_cases hk0 : k = 0
  · subst hk0
    obtain ⟨F', T', V', C', ev⟩ := own_step C h0 (by rcases hw with ⟨_, hT, _⟩ | ⟨_, hT, _⟩ <;> omega)
    have hpop := h.pop
    generalize (Ss 0).nxt 0 4 c = O' at C' ev fit' ⊢
    have hth : (fun i => setS Ss 0 O' (i + 1)) = fun i => Ss (i + 1) := by funext i; rw [setS_other _ _ (by omega)]
    have hne : ∀ i, i < m → i ≠ 0 → (¬ hold i (Ss i)) → ¬ hold i (setS Ss 0 O' i) := fun i _ d q => by rw [setS_other _ _ d]; exact q
    have fin : ∀ (hp : O'.st = 0 ∨ 5 ≤ O'.st) (hV' : V' 0 = 42) (hw' : (F' = 0 ∧ T' = 1 ∧ ∀ i, i < m → ¬ hold i (setS Ss 0 O' i)) ∨ (F' = T' ∧ T' ≤ 1 ∧ ∃ i0, i0 < m ∧ hold i0 (setS Ss 0 O' i0) ∧ (setS Ss 0 O' i0).value = 42 ∧ ∀ i, i < m → i ≠ i0 → ¬ hold i (setS Ss 0 O' i))), LastI m ((Ss 0).after 0 4 c) (setS Ss 0 O') := fun hp hV' hw' => ⟨fit', u', by rw [setS_same]; exact hp, F', T', V', by rw [setS_same, hth]; exact C', hV', hw'⟩
    have one : ∀ (_ : F = 0 ∧ T = 1 ∧ ∀ i, i < m → ¬ hold i (Ss i)) (_ : hold 0 O') (_ : O'.value = 42) (_ : F' = T') (_ : T' ≤ 1), (F' = 0 ∧ T' = 1 ∧ ∀ i, i < m → ¬ hold i (setS Ss 0 O' i)) ∨ (F' = T' ∧ T' ≤ 1 ∧ ∃ i0, i0 < m ∧ hold i0 (setS Ss 0 O' i0) ∧ (setS Ss 0 O' i0).value = 42 ∧ ∀ i, i < m → i ≠ i0 → ¬ hold i (setS Ss 0 O' i)) := fun a q1 q2 q3 q4 => .inr ⟨q3, q4, 0, hk, by rw [setS_same]; exact q1, by rw [setS_same]; exact q2, fun i hi d => hne i hi d (a.2.2 i hi)⟩
    have keep : ∀ (_ : hold 0 O' ↔ hold 0 (Ss 0)) (_ : hold 0 (Ss 0) → O'.value = (Ss 0).value) (_ : F' = F) (_ : T' = T), (F' = 0 ∧ T' = 1 ∧ ∀ i, i < m → ¬ hold i (setS Ss 0 O' i)) ∨ (F' = T' ∧ T' ≤ 1 ∧ ∃ i0, i0 < m ∧ hold i0 (setS Ss 0 O' i0) ∧ (setS Ss 0 O' i0).value = 42 ∧ ∀ i, i < m → i ≠ i0 → ¬ hold i (setS Ss 0 O' i)) := by
      rintro q1 q2 rfl rfl
      rcases hw with ⟨a1, a2, a3⟩ | ⟨a1, a2, i0, b1, b2, b3, b4⟩
      · refine .inl ⟨a1, a2, fun i hi => ?_⟩
        by_cases d : i = 0
        · subst d; rw [setS_same, q1]; exact a3 0 hi
        · exact hne i hi d (a3 i hi)
      · refine .inr ⟨a1, a2, i0, b1, ?_, ?_, fun i hi d => ?_⟩
        · by_cases e : i0 = 0
          · subst e; rw [setS_same, q1]; exact b2
          · rw [setS_other _ _ e]; exact b2
        · by_cases e : i0 = 0
          · subst e; rw [setS_same, q2 b2]; exact b3
          · rw [setS_other _ _ e]; exact b3
        · by_cases e : i = 0
          · subst e; rw [setS_same, q1]; exact b4 0 hi d
          · exact hne i hi e (b4 i hi d)
    rcases ev.ev with ⟨e1, _⟩ | ⟨e1, e2, e3, e4, e5, e6, e7, e8⟩ | ⟨e1, e2, e3, e4, e5, e6, e7, e8⟩ | ⟨e1, e2, e3, e4, e5, e6, e7⟩ | ⟨e1, e2, e3, e4, e5, _, e6⟩
    · omega
    · have a : F = 0 ∧ T = 1 ∧ ∀ i, i < m → ¬ hold i (Ss i) := by
        rcases hw with a | ⟨a, _⟩
        · exact a
        · omega
      have t0 : T' = 0 := by have := a.2.1; clear hw; omega
      have f0 : F' = T' := by rw [t0, e4]; exact a.1
      exact fin (.inl e2) (by rw [e7]; exact hV) (one a ⟨.inl e2, e3⟩ (by rw [e8, t0]; exact hV) f0 (by rw [t0]; exact Nat.zero_le _))
    · have a : F = 0 ∧ T = 1 ∧ ∀ i, i < m → ¬ hold i (Ss i) := by
        rcases hw with a | ⟨a, _⟩
        · exact a
        · omega
      have t0 : F' = T' := by rw [e4, e5]; exact e6
      have t1 : T' ≤ 1 := by rw [e5, a.2.1]; exact Nat.le_refl _
      exact fin (.inr (by rw [e2]; decide)) (by rw [e7]; exact hV) (one a ⟨.inr ⟨rfl, e2⟩, e3⟩ (by rw [e8, a.1]; exact hV) t0 t1)
    · refine fin (.inl e2) (by rw [e7]; exact hV) (keep ⟨fun q => ⟨.inr ⟨rfl, e1⟩, by rw [← e3]; exact q.2⟩, fun q => ⟨.inl e2, by rw [e3]; exact q.2⟩⟩ (fun _ => e4) e5 e6)
    · have n1 : ¬ hold 0 (Ss 0) := fun q => by
        rcases q.1 with d | d
        · exact h0 d
        · exact e1 d.2
      have n2 : ¬ hold 0 O' := fun q => by
        have := e2 (q.1.elim .inl fun d => .inr d.2)
        rw [q.2] at this
        cases this
      exact fin (e6 (hpop.resolve_left h0)) (by rw [e5]; exact hV) (keep ⟨fun q => absurd q n2, fun q => absurd q n1⟩ (fun q => absurd q n1) e3 e4)
  · obtain ⟨k, rfl⟩ : ∃ j, k = j + 1 := ⟨k - 1, by omega⟩
    obtain ⟨F', C', ev⟩ := th_step C (k := k) (by omega) ((h.fit _ hk).st) h0
    change Conc 0 4 ((Ss (k + 1)).after 0 4 c) F' T V (Ss 0) (m - 1) (setS (fun i => Ss (i + 1)) k ((Ss (k + 1)).nxt 0 4 c)) at C'
    change ThEv F T V ((Ss (k + 1)).nxt 0 4 c) F' at ev
    generalize (Ss (k + 1)).nxt 0 4 c = S' at C' ev fit' ⊢
    rw [← setS_shift] at C'
    have hs0 : setS Ss (k + 1) S' 0 = Ss 0 := setS_other _ _ (by omega)
    have n1 : ¬ hold (k + 1) (Ss (k + 1)) := fun q => by have := q.1; omega
    have hne : ∀ i, i ≠ k + 1 → setS Ss (k + 1) S' i = Ss i := fun i d => setS_other _ _ d
    refine ⟨fit', u', by rw [hs0]; exact h.pop, F', T, V, by rw [hs0]; exact C', hV, ?_⟩
    rcases ev with ⟨e1, e2, e3, e4, e5⟩ | ⟨e1, e2⟩
    · rcases hw with ⟨a1, a2, a3⟩ | ⟨a1, _⟩
      · refine .inr ⟨by omega, by omega, k + 1, hk, by rw [setS_same]; exact ⟨.inl e1, e2⟩, by rw [setS_same, e3, a1]; exact hV, fun i hi d => by rw [hne i d]; exact a3 i hi⟩
      · omega
    · have n2 : ¬ hold (k + 1) S' := fun q => by
        have := e1 (by have := q.1; omega)
        rw [q.2] at this
        cases this
      rcases hw with ⟨a1, a2, a3⟩ | ⟨a1, a2, i0, b1, b2, b3, b4⟩
      · refine .inl ⟨by omega, a2, fun i hi => ?_⟩
        by_cases d : i = k + 1
        · subst d; rw [setS_same]; exact n2
        · rw [hne i d]; exact a3 i hi
      · have d0 : i0 ≠ k + 1 := fun d => n1 (d ▸ b2)
        refine .inr ⟨by omega, a2, i0, b1, by rw [hne i0 d0]; exact b2, by rw [hne i0 d0]; exact b3, fun i hi d => ?_⟩
        by_cases e : i = k + 1
        · subst e; rw [setS_same]; exact n2
        · rw [hne i e]; exact b4 i hi d
end

/-! ## Fair turns -/
/-- How often act a has its turn among the first j in a row. -/
def times (m a : Nat) : Nat → Nat
  | 0 => 0
  | j + 1 => times m a j + if j % m = a then 1 else 0
theorem times_round (m a j : Nat) (ha : a < m) : times m a (j + m) = times m a j + 1 := by
  have key : ∀ d, d ≤ m → times m a (j + d) = times m a j + (if ∃ i, i < d ∧ (j + i) % m = a then 1 else 0) := by
    intro d
    induction d with
    | zero => intro _; simp
    | succ d ih =>
      intro hd
      have := ih (by omega)
      show times m a (j + d) + (if (j + d) % m = a then 1 else 0) = _
      rw [this]
      by_cases h1 : (j + d) % m = a
      · have h2 : ¬ ∃ i, i < d ∧ (j + i) % m = a := by
          rintro ⟨i, hi, he⟩
          have q1 := Nat.div_add_mod (j + i) m
          have q2 := Nat.div_add_mod (j + d) m
          rw [he] at q1
          rw [h1] at q2
          have q3 : d - i = m * ((j + d) / m) - m * ((j + i) / m) := by omega
          have q4 : m ∣ d - i := by rw [q3]; exact Nat.dvd_sub (Nat.dvd_mul_right _ _) (Nat.dvd_mul_right _ _)
          have := Nat.le_of_dvd (by omega) q4
          omega
        rw [if_neg h2, if_pos h1, if_pos ⟨d, by omega, h1⟩]
      · rw [if_neg h1]
        by_cases h2 : ∃ i, i < d ∧ (j + i) % m = a
        · obtain ⟨i, hi, he⟩ := h2
          rw [if_pos ⟨i, hi, he⟩, if_pos ⟨i, by omega, he⟩]
        · rw [if_neg h2, if_neg]
          rintro ⟨i, hi, he⟩
          by_cases d' : i = d
          · rw [d'] at he; exact h1 he
          · exact h2 ⟨i, by omega, he⟩
  rw [key m (Nat.le_refl _), if_pos]
  have hj := Nat.mod_lt j (show 0 < m by omega)
  by_cases d : j % m ≤ a
  · refine ⟨a - j % m, by omega, ?_⟩
    rw [show j + (a - j % m) = a + m * (j / m) by have := Nat.div_add_mod j m; omega, Nat.add_mul_mod_self_left, Nat.mod_eq_of_lt ha]
  · refine ⟨a + m - j % m, by omega, ?_⟩
    rw [show j + (a + m - j % m) = a + m * (j / m + 1) by rw [Nat.mul_add]; have := Nat.div_add_mod j m; omega, Nat.add_mul_mod_self_left, Nat.mod_eq_of_lt ha]
theorem times_more (m a j : Nat) (ha : a < m) (r : Nat) : times m a (j + m * r) = times m a j + r := by
  induction r with
  | zero => rfl
  | succ r ih => rw [Nat.mul_succ, ← Nat.add_assoc, times_round m a _ ha, ih]; omega
def Fair (m L j : Nat) (Ss : Nat → Ac) : Prop := ∀ a, a < m → L ≤ j → (Ss a).mu = 0 ∨ (Ss a).mu + times m a j ≤ 16 + times m a L
section
variable {m : Nat} {Ss : Nat → Ac}
theorem Fair.early {L j : Nat} (hj : j ≤ L) (hf : ∀ a, a < m → Fit (Ss a)) : Fair m L j Ss := by
  intro a ha hL
  obtain rfl : j = L := by omega
  right
  have := (hf a ha).mu_le
  omega
theorem Fair.step {L j : Nat} {S : Ac} (h : Fair m L j Ss) (hj : L ≤ j) (hS : S.mu = 0 ∨ S.mu + 1 ≤ (Ss (j % m)).mu) : Fair m L (j + 1) (setS Ss (j % m) S) := by
  intro a ha _
  show _ ∨ _ + (times m a j + if j % m = a then 1 else 0) ≤ _
  have h0 := h a ha hj
  by_cases d : a = j % m
  · subst d
    rw [setS_same, if_pos rfl]
    omega
  · rw [setS_other _ _ d, if_neg (fun e => d e.symm)]
    omega
theorem Fair.done {L : Nat} (h : Fair m L (L + m * 16) Ss) : ∀ a, a < m → (Ss a).mu = 0 := by
  intro a ha
  rcases h a ha (by omega) with e | e
  · exact e
  · rw [times_more m a L ha 16] at e
    omega
end
end Go.Proofs.Ytfpgdmnbehingaa
