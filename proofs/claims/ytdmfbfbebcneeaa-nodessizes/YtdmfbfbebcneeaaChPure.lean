/-
  An act of the cache without a program: what its steps make of it and of the cells; an act run to its end; acts in whatever turns.
-/
import Derived.Test.YtdmfbfbebcneeaaMem
namespace Go.Proofs.Ytdmfbfbebcneeaa.Ch
open Go Go.RowKit

/-- The halves of a word, and a word of its halves. -/
def hi (x : Int) : Int := x / 4294967296
def lo (x : Int) : Int := x % 4294967296
def jn (u l : Int) : Int := u * 4294967296 + l
theorem hi_jn (u : Int) {l : Int} (h0 : 0 ≤ l) (h1 : l < 4294967296) : hi (jn u l) = u := by unfold hi jn; omega
theorem lo_jn (u : Int) {l : Int} (h0 : 0 ≤ l) (h1 : l < 4294967296) : lo (jn u l) = l := by unfold lo jn; omega
theorem jn_hi_lo (x : Int) : jn (hi x) (lo x) = x := by unfold jn hi lo; omega
theorem hi_lt {x : Int} (h0 : 0 ≤ x) (h1 : x ≤ 18446744073709551615) : 0 ≤ hi x ∧ hi x < 4294967296 := by unfold hi; omega
theorem lo_lt (x : Int) : 0 ≤ lo x ∧ lo x < 4294967296 := by unfold lo; omega
theorem jn_lt {u l : Int} (h0 : 0 ≤ u) (h1 : u < 4294967296) (h2 : 0 ≤ l) (h3 : l < 4294967296) : 0 ≤ jn u l ∧ jn u l ≤ 18446744073709551615 := by unfold jn; omega
/-- The version that follows. -/
def bh (v : Int) : Int := if v = 4294967295 then 1 else v + 1
theorem bh_lt {v : Int} (h0 : 0 ≤ v) (h1 : v < 4294967296) : 1 ≤ bh v ∧ bh v < 4294967296 := by unfold bh; split <;> omega
/-- The four halves of a key and a value. -/
def half (key val : Int) (i : Nat) : Int := if i = 0 then hi key else if i = 1 then lo key else if i = 2 then hi val else lo val
theorem half_lt {key val : Int} (h0 : 0 ≤ key) (h1 : key ≤ 18446744073709551615) (h2 : 0 ≤ val) (h3 : val ≤ 18446744073709551615) (i : Nat) : 0 ≤ half key val i ∧ half key val i < 4294967296 := by
  unfold half
  split
  · exact hi_lt h0 h1
  · split
    · exact lo_lt _
    · split
      · exact hi_lt h2 h3
      · exact lo_lt _
def U64 (c : Nat → Int) : Prop := ∀ i, 0 ≤ c i ∧ c i ≤ 18446744073709551615

/-- An act: what it is for, where its line begins, how far it is (0: done; a put looks, claims, writes: 1, 2, 3; a get opens, reads: 4, 5); whether it has made a version its own. -/
structure Ac where
  put : Bool
  key : Int
  val : Int
  first : Nat
  cell : Nat
  h : Nat → Int
  was : Int
  ver : Int
  st : Nat
  found : Bool
  won : Bool
def Ac.ofPut (f : Nat) (key val : Int) : Ac := ⟨true, key, val, f, 0, half key val, 0, 0, 1, false, false⟩
def Ac.ofGet (f : Nat) (key : Int) : Ac := ⟨false, key, 0, f, 0, half key 0, 0, 0, 4, false, false⟩
/-- What a step makes of it over the cells c. -/
def Ac.nxt (c : Nat → Int) (S : Ac) : Ac :=
  if S.st = 0 then S
  else if S.st = 1 then ⟨S.put, S.key, S.val, S.first, S.cell, S.h, c S.first, bh (hi (c S.first)), 2, S.found, S.won⟩
  else if S.st = 2 then (if c S.first = S.was then ⟨S.put, S.key, S.val, S.first, 1, S.h, S.was, S.ver, 3, S.found, true⟩ else ⟨S.put, S.key, S.val, S.first, S.cell, S.h, S.was, S.ver, 0, S.found, S.won⟩)
  else if S.st = 3 then ⟨S.put, S.key, S.val, S.first, S.cell + 1, S.h, S.was, S.ver, if S.cell + 1 = 4 then 0 else 3, S.found, S.won⟩
  else if S.st = 4 then (if hi (c S.first) = 0 ∨ ¬ lo (c S.first) = S.h 0 then ⟨S.put, S.key, S.val, S.first, S.cell, S.h, S.was, S.ver, 0, S.found, S.won⟩ else ⟨S.put, S.key, S.val, S.first, 1, S.h, S.was, hi (c S.first), 5, S.found, S.won⟩)
  else (if ¬ hi (c (S.first + S.cell)) = S.ver ∨ S.cell < 2 ∧ ¬ lo (c (S.first + S.cell)) = S.h S.cell then ⟨S.put, S.key, S.val, S.first, S.cell, S.h, S.was, S.ver, 0, S.found, S.won⟩
    else ⟨S.put, S.key, S.val, S.first, S.cell + 1, upd S.h S.cell (lo (c (S.first + S.cell))), S.was, S.ver, if S.cell + 1 = 4 then 0 else 5, if S.cell + 1 = 4 then true else S.found, S.won⟩)
/-- What a step makes of the cells. -/
def Ac.after (c : Nat → Int) (S : Ac) : Nat → Int :=
  if S.st = 2 ∧ c S.first = S.was then upd c S.first (jn S.ver (S.h 0))
  else if S.st = 3 then upd c (S.first + S.cell) (jn S.ver (S.h S.cell))
  else c
/-- What it tells. -/
def Ac.told (S : Ac) : Int := if S.found = true then jn (S.h 2) (S.h 3) else 0
/-- How many steps are left at most. -/
def Ac.mu (S : Ac) : Nat := if S.st = 0 then 0 else if S.st = 1 then 5 else if S.st = 2 then 4 else if S.st = 4 then 4 else 4 - S.cell

/-- An act in its bounds, over N cells. -/
structure Fit (N : Nat) (S : Ac) : Prop where
  room : S.first + 4 ≤ N
  cell : S.st = 3 ∨ S.st = 5 → 1 ≤ S.cell ∧ S.cell ≤ 3
  h : ∀ i, 0 ≤ S.h i ∧ S.h i < 4294967296
  ver : 0 ≤ S.ver ∧ S.ver < 4294967296
  st : S.st ≤ 5

section
variable {N : Nat} {S : Ac} {c : Nat → Int}
theorem nxt0 (h : S.st = 0) : S.nxt c = S := by unfold Ac.nxt; rw [if_pos h]
theorem nxt1 (h : S.st = 1) : S.nxt c = ⟨S.put, S.key, S.val, S.first, S.cell, S.h, c S.first, bh (hi (c S.first)), 2, S.found, S.won⟩ := by unfold Ac.nxt; rw [if_neg (by omega), if_pos h]
theorem nxt2 (h : S.st = 2) : S.nxt c = if c S.first = S.was then ⟨S.put, S.key, S.val, S.first, 1, S.h, S.was, S.ver, 3, S.found, true⟩ else ⟨S.put, S.key, S.val, S.first, S.cell, S.h, S.was, S.ver, 0, S.found, S.won⟩ := by
  unfold Ac.nxt; rw [if_neg (by omega), if_neg (by omega), if_pos h]
theorem nxt3 (h : S.st = 3) : S.nxt c = ⟨S.put, S.key, S.val, S.first, S.cell + 1, S.h, S.was, S.ver, if S.cell + 1 = 4 then 0 else 3, S.found, S.won⟩ := by
  unfold Ac.nxt; rw [if_neg (by omega), if_neg (by omega), if_neg (by omega), if_pos h]
theorem nxt4 (h : S.st = 4) : S.nxt c = if hi (c S.first) = 0 ∨ ¬ lo (c S.first) = S.h 0 then ⟨S.put, S.key, S.val, S.first, S.cell, S.h, S.was, S.ver, 0, S.found, S.won⟩ else ⟨S.put, S.key, S.val, S.first, 1, S.h, S.was, hi (c S.first), 5, S.found, S.won⟩ := by
  unfold Ac.nxt; rw [if_neg (by omega), if_neg (by omega), if_neg (by omega), if_neg (by omega), if_pos h]
theorem nxt5 (h : S.st = 5) : S.nxt c = if ¬ hi (c (S.first + S.cell)) = S.ver ∨ S.cell < 2 ∧ ¬ lo (c (S.first + S.cell)) = S.h S.cell then ⟨S.put, S.key, S.val, S.first, S.cell, S.h, S.was, S.ver, 0, S.found, S.won⟩
    else ⟨S.put, S.key, S.val, S.first, S.cell + 1, upd S.h S.cell (lo (c (S.first + S.cell))), S.was, S.ver, if S.cell + 1 = 4 then 0 else 5, if S.cell + 1 = 4 then true else S.found, S.won⟩ := by
  unfold Ac.nxt; rw [if_neg (by omega), if_neg (by omega), if_neg (by omega), if_neg (by omega), if_neg (by omega)]
theorem after2 (h : S.st = 2) (e : c S.first = S.was) : S.after c = upd c S.first (jn S.ver (S.h 0)) := by unfold Ac.after; rw [if_pos ⟨h, e⟩]
theorem after3 (h : S.st = 3) : S.after c = upd c (S.first + S.cell) (jn S.ver (S.h S.cell)) := by unfold Ac.after; rw [if_neg (fun e => by omega), if_pos h]
theorem after_same (h : S.st = 2 → ¬ c S.first = S.was) (h3 : ¬ S.st = 3) : S.after c = c := by unfold Ac.after; rw [if_neg (fun e => h e.1 e.2), if_neg h3]
theorem six (h : S.st ≤ 5) : S.st = 0 ∨ S.st = 1 ∨ S.st = 2 ∨ S.st = 3 ∨ S.st = 4 ∨ S.st = 5 := by omega

theorem upd_same (c : Nat → Int) (i : Nat) (v : Int) : upd c i v i = v := by simp [upd]
theorem upd_other (c : Nat → Int) {i j : Nat} (v : Int) (h : j ≠ i) : upd c i v j = c j := by simp [upd, h]

theorem Fit.step (h : Fit N S) (hc : U64 c) : Fit N (S.nxt c) := by
  have hv := hi_lt (hc S.first).1 (hc S.first).2
  rcases six h.st with e | e | e | e | e | e
  · rw [nxt0 e]; exact h
  · rw [nxt1 e]
    exact ⟨h.room, fun k => by simp at k, h.h, ⟨by have := bh_lt hv.1 hv.2; show 0 ≤ bh _; omega, (bh_lt hv.1 hv.2).2⟩, by show 2 ≤ 5; omega⟩
  · rw [nxt2 e]
    split
    · exact ⟨h.room, fun _ => ⟨Nat.le_refl 1, by show 1 ≤ 3; omega⟩, h.h, h.ver, by show 3 ≤ 5; omega⟩
    · exact ⟨h.room, fun k => by simp at k, h.h, h.ver, by show 0 ≤ 5; omega⟩
  · rw [nxt3 e]
    have hcl := h.cell (.inl e)
    by_cases d : S.cell + 1 = 4
    · rw [if_pos d]
      exact ⟨h.room, fun k => by simp at k, h.h, h.ver, by show 0 ≤ 5; omega⟩
    · rw [if_neg d]
      exact ⟨h.room, fun _ => ⟨by show 1 ≤ S.cell + 1; omega, by show S.cell + 1 ≤ 3; omega⟩, h.h, h.ver, by show 3 ≤ 5; omega⟩
  · rw [nxt4 e]
    split
    · exact ⟨h.room, fun k => by simp at k, h.h, h.ver, by show 0 ≤ 5; omega⟩
    · exact ⟨h.room, fun _ => ⟨Nat.le_refl 1, by show 1 ≤ 3; omega⟩, h.h, hv, by show 5 ≤ 5; omega⟩
  · rw [nxt5 e]
    have hcl := h.cell (.inr e)
    split
    · exact ⟨h.room, fun k => by simp at k, h.h, h.ver, by show 0 ≤ 5; omega⟩
    · have hh : ∀ i, 0 ≤ upd S.h S.cell (lo (c (S.first + S.cell))) i ∧ upd S.h S.cell (lo (c (S.first + S.cell))) i < 4294967296 := fun i => by
        by_cases d : i = S.cell
        · rw [d, upd_same]; exact lo_lt _
        · rw [upd_other _ _ d]; exact h.h i
      by_cases d : S.cell + 1 = 4
      · rw [if_pos d]
        exact ⟨h.room, fun k => by simp at k, hh, h.ver, by show 0 ≤ 5; omega⟩
      · rw [if_neg d]
        exact ⟨h.room, fun _ => ⟨by show 1 ≤ S.cell + 1; omega, by show S.cell + 1 ≤ 3; omega⟩, hh, h.ver, by show 5 ≤ 5; omega⟩
theorem U64.step (hc : U64 c) (h : Fit N S) : U64 (S.after c) := by
  have key : ∀ (j i : Nat), U64 (upd c j (jn S.ver (S.h i))) := fun j i k => by
    by_cases d : k = j
    · rw [d, upd_same]
      exact jn_lt h.ver.1 h.ver.2 (h.h i).1 (h.h i).2
    · rw [upd_other _ _ d]; exact hc k
  unfold Ac.after
  split
  · exact key _ _
  · split
    · exact key _ _
    · exact hc
theorem mu_le (S : Ac) : S.mu ≤ 5 := by
  unfold Ac.mu
  split
  · omega
  · split
    · omega
    · split
      · omega
      · split <;> omega
theorem mu_zero (h : S.st = 0) : S.mu = 0 := by unfold Ac.mu; rw [if_pos h]
theorem Fit.mu_done (h : Fit N S) (k : S.mu = 0) : S.st = 0 := by
  rcases six h.st with e | e | e | e | e | e
  · exact e
  all_goals
    unfold Ac.mu at k
    rw [e] at k
    simp at k
  all_goals
    have := h.cell (by omega)
    omega
theorem Fit.mu_step (h : Fit N S) (h0 : ¬ S.st = 0) : (S.nxt c).mu + 1 ≤ S.mu := by
  rcases six h.st with e | e | e | e | e | e
  · exact absurd e h0
  · rw [nxt1 e]; simp [Ac.mu, e]
  · rw [nxt2 e]
    split <;> simp [Ac.mu, e]
  · rw [nxt3 e]
    have := h.cell (.inl e)
    by_cases d : S.cell + 1 = 4
    · rw [if_pos d]; simp [Ac.mu, e]; omega
    · rw [if_neg d]; simp [Ac.mu, e]; omega
  · rw [nxt4 e]
    split <;> simp [Ac.mu, e]
  · rw [nxt5 e]
    have := h.cell (.inr e)
    split
    · simp [Ac.mu, e]; omega
    · by_cases d : S.cell + 1 = 4
      · rw [if_pos d]; simp [Ac.mu, e]; omega
      · rw [if_neg d]; simp [Ac.mu, e]; omega
end

theorem Fit.ofPut {N f : Nat} {key val : Int} (hf : f + 4 ≤ N) (h0 : 0 ≤ key) (h1 : key ≤ 18446744073709551615) (h2 : 0 ≤ val) (h3 : val ≤ 18446744073709551615) : Fit N (Ac.ofPut f key val) :=
  ⟨hf, fun k => by simp [Ac.ofPut] at k, half_lt h0 h1 h2 h3, ⟨Int.le_refl _, by show (0 : Int) < _; omega⟩, by show 1 ≤ 5; omega⟩
theorem Fit.ofGet {N f : Nat} {key : Int} (hf : f + 4 ≤ N) (h0 : 0 ≤ key) (h1 : key ≤ 18446744073709551615) : Fit N (Ac.ofGet f key) :=
  ⟨hf, fun k => by simp [Ac.ofGet] at k, half_lt h0 h1 (Int.le_refl _) (by omega), ⟨Int.le_refl _, by show (0 : Int) < _; omega⟩, by show 4 ≤ 5; omega⟩

/-! ## One behind the other -/
/-- The cells and the act behind k steps, or where it is done before. -/
def runs : Nat → (Nat → Int) → Ac → (Nat → Int) × Ac
  | 0, c, S => (c, S)
  | k + 1, c, S => if S.st = 0 then (c, S) else runs k (S.after c) (S.nxt c)
theorem runs_done (k : Nat) (c : Nat → Int) {S : Ac} (h : S.st = 0) : runs k c S = (c, S) := by
  cases k with
  | zero => rfl
  | succ k => show (if S.st = 0 then (c, S) else _) = _; rw [if_pos h]
theorem runs_step (k : Nat) (c : Nat → Int) {S : Ac} (h : ¬ S.st = 0) : runs (k + 1) c S = runs k (S.after c) (S.nxt c) := by
  show (if S.st = 0 then (c, S) else _) = _; rw [if_neg h]
theorem runs_fit {N : Nat} (k : Nat) : ∀ (c : Nat → Int) (S : Ac), U64 c → Fit N S → U64 (runs k c S).1 ∧ Fit N (runs k c S).2 := by
  induction k with
  | zero => exact fun c S h1 h2 => ⟨h1, h2⟩
  | succ k ih =>
    intro c S h1 h2
    by_cases h : S.st = 0
    · rw [runs_done _ _ h]; exact ⟨h1, h2⟩
    · rw [runs_step _ _ h]; exact ih _ _ (h1.step h2) (h2.step h1)
theorem runs_mu {N : Nat} (k : Nat) : ∀ (c : Nat → Int) (S : Ac), U64 c → Fit N S → S.mu ≤ k → (runs k c S).2.st = 0 := by
  induction k with
  | zero => exact fun c S _ h2 h3 => h2.mu_done (by omega)
  | succ k ih =>
    intro c S h1 h2 h3
    by_cases h : S.st = 0
    · rw [runs_done _ _ h]; exact h
    · rw [runs_step _ _ h]; exact ih _ _ (h1.step h2) (h2.step h1) (by have := h2.mu_step (c := c) h; omega)

/-- The cells behind a put alone. -/
def putAt (c : Nat → Int) (f : Nat) (key val : Int) : Nat → Int :=
  upd (upd (upd (upd c f (jn (bh (hi (c f))) (hi key))) (f + 1) (jn (bh (hi (c f))) (lo key))) (f + 2) (jn (bh (hi (c f))) (hi val))) (f + 3) (jn (bh (hi (c f))) (lo val))
theorem runs_put (c : Nat → Int) (f : Nat) (key val : Int) : (runs 16 c (Ac.ofPut f key val)).1 = putAt c f key val ∧ (runs 16 c (Ac.ofPut f key val)).2.found = false ∧ (runs 16 c (Ac.ofPut f key val)).2.st = 0 := by
  rw [runs_step _ _ (by simp [Ac.ofPut]), runs_step, runs_step, runs_step, runs_step, runs_done]
  all_goals simp [Ac.nxt, Ac.after, Ac.ofPut, half, putAt]

/-- What the cells at f tell of a key. -/
def Hits (c : Nat → Int) (f : Nat) (key : Int) : Prop :=
  ¬ hi (c f) = 0 ∧ lo (c f) = hi key ∧ hi (c (f + 1)) = hi (c f) ∧ lo (c (f + 1)) = lo key ∧ hi (c (f + 2)) = hi (c f) ∧ hi (c (f + 3)) = hi (c f)
theorem runs_get (c : Nat → Int) (f : Nat) (key : Int) : (runs 16 c (Ac.ofGet f key)).1 = c ∧ (runs 16 c (Ac.ofGet f key)).2.st = 0 ∧
    ((runs 16 c (Ac.ofGet f key)).2.found = true ↔ Hits c f key) ∧ ((runs 16 c (Ac.ofGet f key)).2.found = true → (runs 16 c (Ac.ofGet f key)).2.told = jn (lo (c (f + 2))) (lo (c (f + 3)))) := by
  have e0 : (Ac.ofGet f key).after c = c := by simp [Ac.ofGet, Ac.after]
  rw [runs_step _ _ (by simp [Ac.ofGet]), e0]
  by_cases h0 : hi (c f) = 0 ∨ ¬ lo (c f) = hi key
  · have e : (Ac.ofGet f key).nxt c = ⟨false, key, 0, f, 0, half key 0, 0, 0, 0, false, false⟩ := by rw [nxt4 rfl]; simp only [Ac.ofGet, half, if_true]; rw [if_pos h0]
    rw [e, runs_done _ _ rfl]
    refine ⟨rfl, rfl, ⟨fun h => (by cases h), fun h => ?_⟩, fun h => (by cases h)⟩
    rcases h0 with h0 | h0
    · exact absurd h0 h.1
    · exact absurd h.2.1 h0
  · have e : (Ac.ofGet f key).nxt c = ⟨false, key, 0, f, 1, half key 0, 0, hi (c f), 5, false, false⟩ := by rw [nxt4 rfl]; simp only [Ac.ofGet, half, if_true]; rw [if_neg h0]
    rw [e, runs_step _ _ (by simp)]
    have q : ∀ S : Ac, S.st = 5 → S.after c = c := fun S h => after_same (fun e => by omega) (by omega)
    rw [q _ rfl]
    by_cases h1 : ¬ hi (c (f + 1)) = hi (c f) ∨ 1 < 2 ∧ ¬ lo (c (f + 1)) = lo key
    · rw [nxt5 rfl]
      simp only [half, if_true, if_false, Nat.one_ne_zero]
      rw [if_pos h1, runs_done _ _ rfl]
      refine ⟨rfl, rfl, ⟨fun h => (by cases h), fun h => ?_⟩, fun h => (by cases h)⟩
      rcases h1 with h1 | h1
      · exact absurd h.2.2.1 h1
      · exact absurd h.2.2.2.1 h1.2
    · rw [nxt5 rfl]
      simp only [half, if_true, if_false, Nat.one_ne_zero]
      rw [if_neg h1]
      simp only [Nat.reduceAdd, Nat.reduceEqDiff, if_false]
      rw [runs_step _ _ (by simp), q _ rfl, nxt5 rfl]
      by_cases h2 : hi (c (f + 2)) = hi (c f)
      · rw [if_neg (by simp [h2])]
        simp only [Nat.reduceAdd, Nat.reduceEqDiff, if_false]
        rw [runs_step _ _ (by simp), q _ rfl, nxt5 rfl]
        by_cases h3 : hi (c (f + 3)) = hi (c f)
        · rw [if_neg (by simp [h3])]
          simp only [Nat.reduceAdd, if_true]
          rw [runs_done _ _ rfl]
          have h0' : ¬ hi (c f) = 0 ∧ lo (c f) = hi key := ⟨fun e => h0 (.inl e), Classical.byContradiction fun e => h0 (.inr e)⟩
          have h1' : hi (c (f + 1)) = hi (c f) ∧ lo (c (f + 1)) = lo key := ⟨Classical.byContradiction fun e => h1 (.inl e), Classical.byContradiction fun e => h1 (.inr ⟨by omega, e⟩)⟩
          exact ⟨rfl, rfl, ⟨fun _ => ⟨h0'.1, h0'.2, h1'.1, h1'.2, h2, h3⟩, fun _ => rfl⟩, fun _ => by simp [Ac.told, upd]⟩
        · rw [if_pos (.inl h3), runs_done _ _ rfl]
          exact ⟨rfl, rfl, ⟨fun h => (by cases h), fun h => absurd h.2.2.2.2.2 h3⟩, fun h => (by cases h)⟩
      · rw [if_pos (.inl h2), runs_done _ _ rfl]
        exact ⟨rfl, rfl, ⟨fun h => (by cases h), fun h => absurd h.2.2.2.2.1 h2⟩, fun h => (by cases h)⟩

section
variable {c : Nat → Int} {f g : Nat} {key key' val : Int}
theorem putAt_other {i : Nat} (h : i < f ∨ f + 4 ≤ i) : putAt c f key val i = c i := by
  unfold putAt
  rw [upd_other _ _ (by omega), upd_other _ _ (by omega), upd_other _ _ (by omega), upd_other _ _ (by omega)]
theorem putAt0 : putAt c f key val f = jn (bh (hi (c f))) (hi key) := by
  unfold putAt
  rw [upd_other _ _ (by omega), upd_other _ _ (by omega), upd_other _ _ (by omega), upd_same]
theorem putAt1 : putAt c f key val (f + 1) = jn (bh (hi (c f))) (lo key) := by
  unfold putAt
  rw [upd_other _ _ (by omega), upd_other _ _ (by omega), upd_same]
theorem putAt2 : putAt c f key val (f + 2) = jn (bh (hi (c f))) (hi val) := by
  unfold putAt
  rw [upd_other _ _ (by omega), upd_same]
theorem putAt3 : putAt c f key val (f + 3) = jn (bh (hi (c f))) (lo val) := by
  unfold putAt
  rw [upd_same]
/-- Right behind its put a key is told, another one of the same line isn't. -/
theorem put_hits (hc : U64 c) (h0 : 0 ≤ key) (h1 : key ≤ 18446744073709551615) (h2 : 0 ≤ val) (h3 : val ≤ 18446744073709551615) :
    (Hits (putAt c f key val) f key' ↔ key' = key) ∧ jn (lo (putAt c f key val (f + 2))) (lo (putAt c f key val (f + 3))) = val := by
  have a := hi_lt h0 h1
  have b := lo_lt key
  have d := hi_lt h2 h3
  have e := lo_lt val
  have v := hi_lt (hc f).1 (hc f).2
  have w := bh_lt v.1 v.2
  unfold Hits
  rw [putAt0, putAt1, putAt2, putAt3, hi_jn _ a.1 a.2, hi_jn _ b.1 b.2, hi_jn _ d.1 d.2, hi_jn _ e.1 e.2, lo_jn _ a.1 a.2, lo_jn _ b.1 b.2, lo_jn _ d.1 d.2, lo_jn _ e.1 e.2]
  refine ⟨⟨fun h => ?_, fun h => ?_⟩, jn_hi_lo val⟩
  · rw [← jn_hi_lo key', ← jn_hi_lo key, h.2.1, h.2.2.2.1]
  · rw [h]
    exact ⟨by omega, rfl, rfl, rfl, rfl, rfl⟩
theorem hits_congr {c' : Nat → Int} (h : ∀ i, f ≤ i → i < f + 4 → c' i = c i) : Hits c' f key ↔ Hits c f key := by
  unfold Hits
  rw [h f (by omega) (by omega), h (f + 1) (by omega) (by omega), h (f + 2) (by omega) (by omega), h (f + 3) (by omega) (by omega)]
end
end Go.Proofs.Ytdmfbfbebcneeaa.Ch
