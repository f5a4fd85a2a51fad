/-
  The probe, without a program: which slots are asked for a key, what a finder's step does, what holds of table and finders whatever turns they take.
-/
import Derived.Test.YtdmfbfbebcneeaaHome
import Derived.Test.YtdmfbfbebcneeaaMem
namespace Go.Proofs.Ytdmfbfbebcneeaa.Tb
open Go Go.RowKit

theorem upd_same (c : Nat → Int) (i : Nat) (v : Int) : upd c i v i = v := by simp [upd]
theorem upd_other (c : Nat → Int) {i j : Nat} (v : Int) (h : j ≠ i) : upd c i v j = c j := by simp [upd, h]

/-- The j-th slot that is asked for key k, of n. -/
def place (n : Nat) (k : Int) (j : Nat) : Nat := (home k n + j) % n
theorem place_lt {n : Nat} (k : Int) (j : Nat) (h : 1 ≤ n) : place n k j < n := Nat.mod_lt _ h
theorem place_zero {n : Nat} (k : Int) (h : 1 ≤ n) : place n k 0 = home k n := by
  unfold place; rw [Nat.add_zero]; exact Nat.mod_eq_of_lt (home_lt k h)
theorem place_next {n : Nat} (k : Int) (j : Nat) : (place n k j + 1) % n = place n k (j + 1) := by
  unfold place; rw [Nat.mod_add_mod]; rfl
theorem place_form {n : Nat} (k : Int) {j : Nat} (h : 1 ≤ n) (hj : j < n) : place n k j = if home k n + j < n then home k n + j else home k n + j - n := by
  have hh := home_lt k h
  unfold place
  by_cases c : home k n + j < n
  · rw [if_pos c, Nat.mod_eq_of_lt c]
  · rw [if_neg c, Nat.mod_eq_sub_mod (by omega), Nat.mod_eq_of_lt (by omega)]
theorem place_inj {n : Nat} {k : Int} {i j : Nat} (h : 1 ≤ n) (hi : i < n) (hj : j < n) (e : place n k i = place n k j) : i = j := by
  have hh := home_lt k h
  rw [place_form k h hi, place_form k h hj] at e
  by_cases c : home k n + i < n <;> by_cases d : home k n + j < n <;> simp only [c, d, if_true, if_false] at e <;> omega
theorem place_onto {n : Nat} (k : Int) {s : Nat} (h : s < n) : ∃ j, j < n ∧ place n k j = s := by
  have hh := home_lt k (n := n) (by omega)
  by_cases c : home k n ≤ s
  · refine ⟨s - home k n, by omega, ?_⟩
    rw [place_form k (by omega) (by omega), if_pos (by omega)]; omega
  · refine ⟨s + n - home k n, by omega, ?_⟩
    rw [place_form k (by omega) (by omega), if_neg (by omega)]; omega

/-- A finder: its key, the slot it is at, how many are left, what it does next (0: nothing, 1: it looks, 2: it claims, 3: it yields), whether it has found, whether it has made. -/
structure Fd where
  key : Int
  slot : Nat
  left : Nat
  st : Nat
  found : Bool
  made : Bool

def Fd.passed (n : Nat) (S : Fd) : Fd := ⟨S.key, (S.slot + 1) % n, S.left - 1, if S.left - 1 = 0 then 0 else 1, S.found, S.made⟩
def Fd.over (S : Fd) : Fd := ⟨S.key, S.slot, S.left, 0, true, S.made⟩
def Fd.to (S : Fd) (st : Nat) : Fd := ⟨S.key, S.slot, S.left, st, S.found, S.made⟩
def Fd.put (S : Fd) : Fd := ⟨S.key, S.slot, S.left, 0, true, true⟩
/-- What a step makes of a finder whose slot holds x. -/
def Fd.nxt (n : Nat) (x : Int) (S : Fd) : Fd :=
  if S.st = 0 then S
  else if S.st = 1 then (if x = S.key then S.over else if x = 0 then S.to 2 else S.passed n)
  else if S.st = 2 then (if x = 0 then S.put else S.to 3)
  else (if x = S.key then S.over else S.passed n)
/-- What a step makes of the slots. -/
def Fd.after (t : Nat → Int) (S : Fd) : Nat → Int := if S.st = 2 ∧ t S.slot = 0 then upd t S.slot S.key else t
/-- How often a step fails. -/
def Fd.fell (x : Int) (S : Fd) : Nat := if S.st = 2 ∧ ¬ x = 0 then 1 else 0
/-- A new finder. -/
def Fd.start (n : Nat) (k : Int) : Fd := ⟨k, home k n, n, 1, false, false⟩
/-- A finder of key 0. -/
def Fd.none (n : Nat) : Fd := ⟨0, home 0 n, 0, 0, false, false⟩
def Fd.mu (S : Fd) : Nat := if S.st = 0 then 0 else if S.st = 1 then 3 * S.left else if S.st = 2 then 3 * S.left - 1 else 3 * S.left - 2

/-- Each key stands behind slots of other keys alone. -/
def Good (n : Nat) (t : Nat → Int) : Prop := ∀ k j, ¬ k = 0 → j < n → t (place n k j) = k → ∀ i, i < j → ¬ t (place n k i) = 0 ∧ ¬ t (place n k i) = k
def Grows (t t' : Nat → Int) : Prop := ∀ i, ¬ t i = 0 → t' i = t i

structure FI (n : Nat) (t : Nat → Int) (S : Fd) : Prop where
  key : ¬ S.key = 0
  left : S.left ≤ n
  slot : 0 < S.left → S.slot = place n S.key (n - S.left)
  past : ∀ i, i < n - S.left → ¬ t (place n S.key i) = 0 ∧ ¬ t (place n S.key i) = S.key
  going : ¬ S.st = 0 → 0 < S.left ∧ S.found = false ∧ S.made = false
  held : ¬ S.st = 0 → ¬ S.st = 1 → ¬ S.st = 2 → ¬ t S.slot = 0
  found : S.found = true → S.st = 0 ∧ 0 < S.left ∧ t S.slot = S.key
  full : S.st = 0 → S.found = false → S.left = 0
  made : S.made = true → S.found = true

theorem Good.empty (n : Nat) : Good n (fun _ => 0) := fun _ _ hk _ e => absurd e.symm hk
theorem Grows.refl (t : Nat → Int) : Grows t t := fun _ _ => rfl
theorem Grows.trans {a b c : Nat → Int} (h : Grows a b) (k : Grows b c) : Grows a c := fun i hi => by
  have := h i hi
  rw [k i (by rw [this]; exact hi), this]
theorem FI.grow {n : Nat} {t t' : Nat → Int} {S : Fd} (h : FI n t S) (g : Grows t t') : FI n t' S := by
  refine ⟨h.key, h.left, h.slot, fun i hi => ?_, h.going, fun a b c => ?_, fun e => ?_, h.full, h.made⟩
  · have := h.past i hi
    rw [g _ this.1]; exact this
  · have := h.held a b c
    rw [g _ this]; exact this
  · obtain ⟨a, b, c⟩ := h.found e
    exact ⟨a, b, by rw [g _ (by rw [c]; exact h.key)]; exact c⟩
theorem after_grows (t : Nat → Int) (S : Fd) : Grows t (S.after t) := by
  intro i hi
  unfold Fd.after
  split
  next c => exact upd_other _ _ (fun e => hi (by rw [e]; exact c.2))
  next => rfl

section
variable {n : Nat} {t : Nat → Int} {S : Fd}
theorem FI.start (h : 1 ≤ n) (t : Nat → Int) {k : Int} (hk : ¬ k = 0) : FI n t (Fd.start n k) := by
  refine ⟨hk, Nat.le_refl _, fun _ => ?_, fun i hi => ?_, fun _ => ⟨h, rfl, rfl⟩, fun _ c _ => absurd rfl c, fun e => (by cases e), fun e => (by cases e), fun e => (by cases e)⟩
  · show home k n = place n k (n - n)
    rw [Nat.sub_self, place_zero k h]
  · exact absurd hi (by show ¬ i < n - n; omega)
theorem FI.slot_lt (h : FI n t S) (hn : 1 ≤ n) (hl : 0 < S.left) : S.slot < n := by rw [h.slot hl]; exact place_lt _ _ hn
/-- What a finder writes stands nowhere yet. -/
theorem FI.fresh (h : FI n t S) (g : Good n t) (hs : ¬ S.st = 0) (h0 : t S.slot = 0) {s : Nat} (hsn : s < n) : ¬ t s = S.key := by
  intro e
  obtain ⟨hl, _⟩ := h.going hs
  have hl2 := h.left
  have es := h.slot hl
  obtain ⟨j, hj, rfl⟩ := place_onto S.key hsn
  rcases Nat.lt_trichotomy j (n - S.left) with c | c | c
  · exact (h.past j c).2 e
  · rw [c, ← es, h0] at e; exact h.key e.symm
  · have := (g S.key j h.key hj e (n - S.left) c).1
    rw [← es] at this
    exact this h0
theorem Good.step (g : Good n t) (h : FI n t S) (hn : 1 ≤ n) : Good n (S.after t) := by
  by_cases c : S.st = 2 ∧ t S.slot = 0
  · have hs : ¬ S.st = 0 := by omega
    obtain ⟨hl, _⟩ := h.going hs
    have hl2 := h.left
    have es := h.slot hl
    have gr := after_grows t S
    intro k j hk hj e i hi
    by_cases d : place n k j = S.slot
    · have hkk : k = S.key := by
        unfold Fd.after at e
        rw [if_pos c, d, upd_same] at e
        exact e.symm
      subst hkk
      have hj' : j = n - S.left := place_inj hn hj (by omega) (by rw [d, es])
      have := h.past i (by omega)
      rw [gr _ this.1]
      exact this
    · have e' : t (place n k j) = k := by
        unfold Fd.after at e
        rw [if_pos c, upd_other _ _ d] at e
        exact e
      have := g k j hk hj e' i hi
      rw [gr _ this.1]
      exact this
  · unfold Fd.after; rw [if_neg c]; exact g
theorem FI.step (h : FI n t S) : FI n (S.after t) (S.nxt n (t S.slot)) := by
  have hg := h.grow (after_grows t S)
  have passd : ¬ S.st = 0 → ¬ S.st = 2 → ¬ t S.slot = 0 → ¬ t S.slot = S.key → FI n (S.after t) (S.passed n) := by
    intro h0 h2 hz hk
    obtain ⟨hl, hf, hm⟩ := h.going h0
    have hl2 := h.left
    have es := h.slot hl
    have ea : S.after t = t := by unfold Fd.after; rw [if_neg (fun c => h2 c.1)]
    rw [ea]
    refine ⟨h.key, by show S.left - 1 ≤ n; omega, fun hl' => ?_, fun i hi => ?_, fun hst => ⟨?_, hf, hm⟩, fun a b _ => ?_, fun e => ?_, fun e _ => ?_, fun e => ?_⟩
    · show (S.slot + 1) % n = place n S.key (n - (S.left - 1))
      rw [es, place_next, show n - (S.left - 1) = n - S.left + 1 by omega]
    · show ¬ t (place n S.key i) = 0 ∧ ¬ t (place n S.key i) = S.key
      have hi' : i < n - (S.left - 1) := hi
      by_cases c : i < n - S.left
      · exact h.past i c
      · have : i = n - S.left := by omega
        rw [this, ← es]; exact ⟨hz, hk⟩
    · show 0 < S.left - 1
      have hst' : ¬ (if S.left - 1 = 0 then 0 else 1) = 0 := hst
      by_cases c : S.left - 1 = 0
      · rw [if_pos c] at hst'; exact absurd rfl hst'
      · omega
    · have a' : ¬ (if S.left - 1 = 0 then 0 else 1) = 0 := a
      have b' : ¬ (if S.left - 1 = 0 then 0 else 1) = 1 := b
      by_cases c : S.left - 1 = 0
      · rw [if_pos c] at a'; exact absurd rfl a'
      · rw [if_neg c] at b'; exact absurd rfl b'
    · have e' : S.found = true := e
      rw [hf] at e'; cases e'
    · show S.left - 1 = 0
      have e' : (if S.left - 1 = 0 then 0 else 1) = 0 := e
      split at e'
      · assumption
      · cases e'
    · have e' : S.made = true := e
      rw [hm] at e'; cases e'
  have over : ¬ S.st = 0 → ¬ S.st = 2 → t S.slot = S.key → FI n (S.after t) S.over := by
    intro h0 h2 hk
    obtain ⟨hl, hf, hm⟩ := h.going h0
    have ea : S.after t = t := by unfold Fd.after; rw [if_neg (fun c => h2 c.1)]
    rw [ea]
    refine ⟨h.key, h.left, h.slot, h.past, fun hst => absurd rfl hst, fun a => absurd rfl a, fun _ => ⟨rfl, hl, hk⟩, fun _ e => (by cases e), fun _ => rfl⟩
  unfold Fd.nxt
  by_cases h0 : S.st = 0
  · rw [if_pos h0]; exact hg
  · rw [if_neg h0]
    obtain ⟨hl, hf, hm⟩ := h.going h0
    by_cases h1 : S.st = 1
    · rw [if_pos h1]
      by_cases hk : t S.slot = S.key
      · rw [if_pos hk]; exact over h0 (by omega) hk
      · rw [if_neg hk]
        by_cases hz : t S.slot = 0
        · rw [if_pos hz]
          exact ⟨hg.key, hg.left, hg.slot, hg.past, fun _ => ⟨hl, hf, hm⟩, fun _ _ c => absurd rfl c, fun e => (by have e' : S.found = true := e; rw [hf] at e'; cases e'), fun e => (by cases e), fun e => (by have e' : S.made = true := e; rw [hm] at e'; cases e')⟩
        · rw [if_neg hz]; exact passd h0 (by omega) hz hk
    · rw [if_neg h1]
      by_cases h2 : S.st = 2
      · rw [if_pos h2]
        by_cases hz : t S.slot = 0
        · rw [if_pos hz]
          refine ⟨hg.key, hg.left, hg.slot, hg.past, fun hst => absurd rfl hst, fun a => absurd rfl a, fun _ => ⟨rfl, hl, ?_⟩, fun _ e => (by cases e), fun _ => rfl⟩
          show S.after t S.slot = S.key
          unfold Fd.after
          rw [if_pos ⟨h2, hz⟩, upd_same]
        · rw [if_neg hz]
          refine ⟨hg.key, hg.left, hg.slot, hg.past, fun _ => ⟨hl, hf, hm⟩, fun _ _ _ => ?_, fun e => (by have e' : S.found = true := e; rw [hf] at e'; cases e'), fun e => (by cases e), fun e => (by have e' : S.made = true := e; rw [hm] at e'; cases e')⟩
          show ¬ S.after t S.slot = 0
          unfold Fd.after
          rw [if_neg (fun c => hz c.2)]
          exact hz
      · rw [if_neg h2]
        by_cases hk : t S.slot = S.key
        · rw [if_pos hk]; exact over h0 h2 hk
        · rw [if_neg hk]; exact passd h0 h2 (h.held h0 h1 h2) hk
theorem FI.mu_step (h : FI n t S) (hs : ¬ S.st = 0) : (S.nxt n (t S.slot)).mu + 1 ≤ S.mu := by
  obtain ⟨hl, hf, hm⟩ := h.going hs
  have pm : (S.passed n).mu ≤ 3 * (S.left - 1) := by
    unfold Fd.mu Fd.passed
    simp only
    by_cases c : S.left - 1 = 0 <;> simp [c]
  have om : S.over.mu = 0 := rfl
  have um : S.put.mu = 0 := rfl
  have t2 : (S.to 2).mu = 3 * S.left - 1 := rfl
  have t3 : (S.to 3).mu = 3 * S.left - 2 := rfl
  unfold Fd.nxt
  rw [if_neg hs]
  by_cases h1 : S.st = 1
  · have e : S.mu = 3 * S.left := by unfold Fd.mu; rw [if_neg hs, if_pos h1]
    rw [if_pos h1, e]
    split
    · omega
    · split <;> omega
  · rw [if_neg h1]
    by_cases h2 : S.st = 2
    · have e : S.mu = 3 * S.left - 1 := by unfold Fd.mu; rw [if_neg hs, if_neg h1, if_pos h2]
      rw [if_pos h2, e]
      split <;> omega
    · have e : S.mu = 3 * S.left - 2 := by unfold Fd.mu; rw [if_neg hs, if_neg h1, if_neg h2]
      rw [if_neg h2, e]
      split <;> omega
theorem mu_zero (hs : S.st = 0) : S.mu = 0 := by unfold Fd.mu; rw [if_pos hs]
theorem FI.mu_done (h : FI n t S) (hm : S.mu = 0) : S.st = 0 := by
  by_cases hs : S.st = 0
  · exact hs
  · obtain ⟨hl, _⟩ := h.going hs
    unfold Fd.mu at hm
    rw [if_neg hs] at hm
    split at hm
    · omega
    · split at hm <;> omega
theorem FI.mu_le (h : FI n t S) : S.mu ≤ 3 * n := by
  have := h.left
  unfold Fd.mu
  split
  · omega
  · split
    · omega
    · split <;> omega
theorem nxt_done (x : Int) (hs : S.st = 0) : S.nxt n x = S := by unfold Fd.nxt; rw [if_pos hs]
theorem after_done (t : Nat → Int) (hs : S.st = 0) : S.after t = t := by unfold Fd.after; rw [if_neg (fun c => by omega)]
theorem fell_done (x : Int) (hs : S.st = 0) : S.fell x = 0 := by unfold Fd.fell; rw [if_neg (fun c => by omega)]
theorem nxt_key (x : Int) : (S.nxt n x).key = S.key := by
  unfold Fd.nxt
  split
  · rfl
  · split
    · split
      · rfl
      · split <;> rfl
    · split
      · split <;> rfl
      · split <;> rfl
/-- One that is done without having found: all slots are of other keys. -/
theorem FI.all (h : FI n t S) (hs : S.st = 0) (hf : S.found = false) : ∀ s, s < n → ¬ t s = 0 ∧ ¬ t s = S.key := by
  intro s hsn
  obtain ⟨j, hj, rfl⟩ := place_onto S.key hsn
  have := h.full hs hf
  exact h.past j (by omega)
theorem Good.one (g : Good n t) {k : Int} (hk : ¬ k = 0) {a b : Nat} (ha : a < n) (hb : b < n) (ea : t a = k) (eb : t b = k) : a = b := by
  obtain ⟨i, hi, rfl⟩ := place_onto k ha
  obtain ⟨j, hj, rfl⟩ := place_onto k hb
  rcases Nat.lt_trichotomy i j with c | c | c
  · exact absurd ea (g k j hk hj eb i c).2
  · rw [c]
  · exact absurd eb (g k i hk hi ea j c).2
end

/-- How many of the first n slots aren't empty. -/
def cnt (t : Nat → Int) : Nat → Nat
  | 0 => 0
  | k + 1 => cnt t k + if t k = 0 then 0 else 1
theorem cnt_le (t : Nat → Int) (n : Nat) : cnt t n ≤ n := by
  induction n with
  | zero => exact Nat.le_refl _
  | succ n ih => simp only [cnt]; split <;> omega
theorem cnt_congr {t u : Nat → Int} (n : Nat) (h : ∀ i, i < n → t i = u i) : cnt t n = cnt u n := by
  induction n with
  | zero => rfl
  | succ n ih => simp only [cnt]; rw [ih fun i hi => h i (by omega), h n (by omega)]
theorem cnt_upd (t : Nat → Int) {n s : Nat} {v : Int} (hs : s < n) (h0 : t s = 0) (hv : ¬ v = 0) : cnt (upd t s v) n = cnt t n + 1 := by
  induction n with
  | zero => omega
  | succ n ih =>
    simp only [cnt]
    by_cases c : s = n
    · subst c
      rw [cnt_congr s (fun i hi => upd_other t v (show i ≠ s by omega)), upd_same, if_neg hv, if_pos h0]
    · rw [ih (by omega), upd_other t v (show n ≠ s by omega)]; omega
theorem cnt_full {t : Nat → Int} {n : Nat} (h : ∀ i, i < n → ¬ t i = 0) : cnt t n = n := by
  induction n with
  | zero => rfl
  | succ n ih => simp only [cnt]; rw [ih fun i hi => h i (by omega), if_neg (h n (by omega))]
theorem cnt_all {t : Nat → Int} {n : Nat} (h : cnt t n = n) : ∀ i, i < n → ¬ t i = 0 := by
  induction n with
  | zero => intro i hi; omega
  | succ n ih =>
    have hl := cnt_le t n
    simp only [cnt] at h
    by_cases c : t n = 0
    · rw [if_pos c] at h; omega
    · rw [if_neg c] at h
      intro i hi
      by_cases d : i = n
      · rw [d]; exact c
      · exact ih (by omega) i (by omega)
theorem cnt_zero (n : Nat) : cnt (fun _ => 0) n = 0 := by
  induction n with
  | zero => rfl
  | succ n ih => simp only [cnt]; rw [ih]; rfl
theorem cnt_ge {n : Nat} (k : Int) (hn : 1 ≤ n) : ∀ (m : Nat) (t : Nat → Int), m ≤ n → (∀ i, i < m → ¬ t (place n k i) = 0) → m ≤ cnt t n := by
  intro m
  induction m with
  | zero => intro t _ _; exact Nat.zero_le _
  | succ m ih =>
    intro t hm h
    have hp := place_lt k m hn
    have := ih (upd t (place n k m) 0) (by omega) (fun i hi => by
      rw [upd_other t 0 (fun e => by have := place_inj hn (by omega) (by omega) e; omega)]
      exact h i (by omega))
    have e := cnt_upd (upd t (place n k m) 0) (v := t (place n k m)) hp (upd_same _ _ _) (h m (by omega))
    have e2 : cnt (upd (upd t (place n k m) 0) (place n k m) (t (place n k m))) n = cnt t n := by
      apply cnt_congr
      intro i _
      by_cases c : i = place n k m
      · rw [c, upd_same]
      · rw [upd_other _ _ c, upd_other _ _ c]
    omega
end Go.Proofs.Ytdmfbfbebcneeaa.Tb
