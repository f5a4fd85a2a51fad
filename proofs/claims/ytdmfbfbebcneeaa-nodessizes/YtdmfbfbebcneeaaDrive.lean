/-
  Finders and acts of the cache driven to their ends.
-/
import Derived.Test.YtdmfbfbebcneeaaTbSolo
import Derived.Test.YtdmfbfbebcneeaaChMake
namespace Go.Proofs.Ytdmfbfbebcneeaa
open Go Go.RowKit

section
variable {w w' : World} {P R N T base n F A : Nat} {c : Nat → Int} {ops fails : Int}
/-- A finder, driven. -/
theorem drive_find {S : Tb.Fd} {t0 t : Nat → Int} (h : Tb.Sys w P R N T base n c ops fails) (k : Tb.IsFd w F T S) (ht : ∀ i, c (base + i) = t i) (hi : Tb.FI n t S) (hg : Tb.Good n t) (so : Tb.Solo n t0 t S) :
    Calls Try.prog 58 #[.func (.func 63) #[.pointer (some ⟨F, 0, none⟩)] #[]] w fun e w' => e = .returned (.tuple #[]) ∧ ∃ (c' : Nat → Int) (o' f' : Int) (t' : Nat → Int) (S' : Tb.Fd), Tb.Sys w' P R N T base n c' o' f' ∧ (∀ i, c' (base + i) = t' i) ∧ (∀ j, j < base ∨ base + n ≤ j → c' j = c j) ∧ Tb.IsFd w' F T S' ∧ S'.st = 0 ∧ S'.key = S.key ∧ Tb.FI n t' S' ∧ Tb.Good n t' ∧ Tb.Solo n t0 t' S' ∧ Went (Tb.Foot P R F) w w' := by
  obtain ⟨key, hkey⟩ : ∃ key, S.key = key := ⟨_, rfl⟩
  rw [hkey]
  go_enter Try.func58, Try.ntmps58
  go_wp2_with fail
  go_loopg [2] (S.mu + 1) (fun g s2 wr => ∃ (c' : Nat → Int) (o' f' : Int) (t' : Nat → Int) (S' : Tb.Fd), S'.mu + 1 ≤ g ∧ Tb.Sys wr P R N T base n c' o' f' ∧ (∀ i, c' (base + i) = t' i) ∧ (∀ j, j < base ∨ base + n ≤ j → c' j = c j) ∧ Tb.IsFd wr F T S' ∧ Aside (S'.key = key) ∧ Tb.FI n t' S' ∧ Tb.Good n t' ∧ Tb.Solo n t0 t' S' ∧ Went (Tb.Foot P R F) w wr)
  case atStart => exact ⟨c, ops, fails, t, S, Nat.le_refl _, h, ht, fun _ _ => rfl, k, hkey, hi, hg, so, Went.refl _ _⟩
  case round =>
    obtain ⟨c', o', f', t', S', hm, H, ht', hj', K, hk', I, G, O, M⟩ := hrel
    clear h k ht hi hg so hkey
    have hmA : Aside (S'.mu + 1 ≤ gk) := hm
    have Ks := Tb.step_any H K t' ht' I
    have I2 : Aside (Tb.FI n (S'.after t') (S'.nxt n (t' S'.slot))) := I.step
    have G2 : Aside (Tb.Good n (S'.after t')) := G.step I H.pos
    have O2 : Aside (Tb.Solo n t0 (S'.after t') (S'.nxt n (t' S'.slot))) := O.step I H.pos
    have k2 : Aside ((S'.nxt n (t' S'.slot)).key = key) := (Tb.nxt_key _).trans hk'.out
    have m2 : Aside (¬ (S'.nxt n (t' S'.slot)).st = 0 → (S'.nxt n (t' S'.slot)).mu + 1 ≤ S'.mu) := fun e => by
      by_cases e0 : S'.st = 0
      · rw [Tb.nxt_done _ e0] at e; exact absurd e0 e
      · exact I.mu_step e0
    have hj2 : Aside (∀ j, j < base ∨ base + n ≤ j → c' j = c j) := hj'
    clear hm ht' hk' I G O hj'
    generalize S'.nxt n (t' S'.slot) = S2 at Ks I2 O2 k2 m2
    generalize S'.after t' = t2 at Ks I2 G2 O2
    by_cases hd : S2.st = 0
    · have hdA : Aside (S2.st = 0) := hd
      rw [decide_eq_true hd] at Ks
      clear hd
      go_wp2_with (first
        | (go_at_call 63; refine Ks.mono ?_; clear Ks; rintro e w1 ⟨rfl, c1, h1, t1, j1, k1, b1⟩))
      go_end0
      exact ⟨rfl, c1, _, _, t2, S2, h1, t1, fun j hj => (j1 j hj).trans (hj2.out j hj), k1, hdA.out, k2.out, I2.out, G2.out, O2.out, M.trans b1⟩
    · have hdA : Aside (¬ S2.st = 0) := hd
      rw [decide_eq_false hd] at Ks
      clear hd
      go_wp2_with (first
        | (go_at_call 63; refine Ks.mono ?_; clear Ks; rintro e w1 ⟨rfl, c1, h1, t1, j1, k1, b1⟩))
      go_roundg (gk - 1)
      case measure => have := hmA.out; omega
      case rel =>
        refine ⟨c1, _, _, t2, S2, ?_, h1, t1, fun j hj => (j1 j hj).trans (hj2.out j hj), k1, k2, I2.out, G2.out, O2.out, M.trans b1⟩
        have := m2.out hdA.out
        have := hmA.out
        omega
/-- An act of the cache, driven. -/
theorem drive_act {S : Ch.Ac} (h : Ch.Sys w P R N T base n c ops fails) (k : Ch.IsAct w A P S) (f : Ch.Fit N S) :
    Calls Try.prog 58 #[.func (.func 59) #[.pointer (some ⟨A, 0, none⟩)] #[]] w fun e w' => e = .returned (.tuple #[]) ∧ (∃ o' f', Ch.Sys w' P R N T base n (Ch.runs 16 c S).1 o' f') ∧ Ch.IsAct w' A P (Ch.runs 16 c S).2 ∧ Went (Ch.Foot P R A) w w' := by
  obtain ⟨X, hX⟩ : ∃ X, Ch.runs 16 c S = X := ⟨_, rfl⟩
  have hXA : Aside (∃ g, S.mu ≤ g ∧ Ch.runs g c S = X) := ⟨16, by have := Ch.mu_le S; omega, hX⟩
  rw [hX]
  clear hX
  go_enter Try.func58, Try.ntmps58
  go_wp2_with fail
  go_loopg [2] (S.mu + 1) (fun g s2 wr => ∃ (c' : Nat → Int) (S' : Ch.Ac), S'.mu + 1 ≤ g ∧ Aside (∃ g, S'.mu ≤ g ∧ Ch.runs g c' S' = X) ∧ Ch.Fit N S' ∧ (∃ o' f', Ch.Sys wr P R N T base n c' o' f') ∧ Ch.IsAct wr A P S' ∧ Went (Ch.Foot P R A) w wr)
  case atStart => exact ⟨c, S, Nat.le_refl _, hXA, f, ⟨_, _, h⟩, k, Went.refl _ _⟩
  case round =>
    obtain ⟨c', S', hm, hr, F, ⟨o', f', H⟩, K, M⟩ := hrel
    clear h k f hXA
    have hmA : Aside (S'.mu + 1 ≤ gk) := hm
    have Ks := Ch.step_any H K F
    have hr2 : Aside (∃ g, (S'.nxt c').mu ≤ g ∧ Ch.runs g (S'.after c') (S'.nxt c') = X) := by
      obtain ⟨g, hg, e⟩ := hr.out
      by_cases e0 : S'.st = 0
      · refine ⟨g, by rw [Ch.nxt0 e0]; exact hg, ?_⟩
        rw [Ch.nxt0 e0, Ch.after0 e0]
        exact e
      · have hmu := F.mu_step (c := c') e0
        obtain ⟨g', rfl⟩ : ∃ g', g = g' + 1 := ⟨g - 1, by omega⟩
        refine ⟨g', by omega, ?_⟩
        rw [Ch.runs_step _ _ e0] at e
        exact e
    have m2 : Aside (¬ (S'.nxt c').st = 0 → (S'.nxt c').mu + 1 ≤ S'.mu) := fun e => by
      by_cases e0 : S'.st = 0
      · rw [Ch.nxt0 e0] at e; exact absurd e0 e
      · exact F.mu_step e0
    have F2 : Ch.Fit N (S'.nxt c') := F.step H.fit
    clear hm hr
    generalize S'.nxt c' = S2 at Ks hr2 F2 m2
    generalize S'.after c' = c2 at Ks hr2
    by_cases hd : S2.st = 0
    · rw [decide_eq_true hd] at Ks
      have hrX : Aside ((c2, S2) = X) := by
        obtain ⟨g, _, e⟩ := hr2.out
        rw [Ch.runs_done _ _ hd] at e
        exact e
      clear hd
      go_wp2_with (first
        | (go_at_call 59; refine Ks.mono ?_; clear Ks; rintro e w1 ⟨rfl, ⟨o1, f1, h1⟩, k1, b1⟩))
      go_end0
      have e := hrX.out
      subst e
      exact ⟨rfl, ⟨_, _, h1⟩, k1, M.trans b1⟩
    · have hdA : Aside (¬ S2.st = 0) := hd
      rw [decide_eq_false hd] at Ks
      clear hd
      go_wp2_with (first
        | (go_at_call 59; refine Ks.mono ?_; clear Ks; rintro e w1 ⟨rfl, h1, k1, b1⟩))
      go_roundg (gk - 1)
      case measure => have := hmA.out; omega
      case rel =>
        refine ⟨c2, S2, ?_, hr2, F2, h1, k1, M.trans b1⟩
        have := m2.out hdA.out
        have := hmA.out
        omega
end
end Go.Proofs.Ytdmfbfbebcneeaa
