/-
  Heaps of pairs (a number, its key): no program.
-/
import Derived.Handy
namespace Go.Proofs.Ythcjmbfhcdkffaa

/-- The greater key is better, of equal keys the lesser number. -/
def bet (a b : Int × Int) : Bool := if a.2 = b.2 then decide (a.1 < b.1) else decide (b.2 < a.2)
theorem bet_iff {a b : Int × Int} : bet a b = true ↔ b.2 < a.2 ∨ (a.2 = b.2 ∧ a.1 < b.1) := by
  unfold bet
  by_cases h : a.2 = b.2
  · simp [h]
  · simp [h]
theorem bet_not {a b : Int × Int} : bet a b = false ↔ a.2 < b.2 ∨ (a.2 = b.2 ∧ b.1 ≤ a.1) := by
  unfold bet
  by_cases h : a.2 = b.2
  · simp [h]
  · simp [h]; omega
theorem bet_asymm {a b : Int × Int} (h : bet a b = true) : bet b a = false := by rw [bet_iff] at h; rw [bet_not]; omega
theorem bet_le_trans {a b c : Int × Int} (h : bet a b = false) (k : bet b c = false) : bet a c = false := by rw [bet_not] at *; omega
theorem bet_le_lt {a b c : Int × Int} (h : bet a b = false) (k : bet c b = true) : bet a c = false := by rw [bet_not] at *; rw [bet_iff] at k; omega
theorem bet_self (a : Int × Int) : bet a a = false := by rw [bet_not]; omega

def swp (I : Nat → Int × Int) (i j : Nat) : Nat → Int × Int := fun k => if k = i then I j else if k = j then I i else I k
theorem swp_l (I : Nat → Int × Int) (i j : Nat) : swp I i j i = I j := by simp [swp]
theorem swp_r (I : Nat → Int × Int) (i j : Nat) : swp I i j j = I i := by
  by_cases h : j = i
  · subst h; simp [swp]
  · simp [swp, h]
theorem swp_o (I : Nat → Int × Int) {i j k : Nat} (h : k ≠ i) (h' : k ≠ j) : swp I i j k = I k := by simp [swp, h, h']

def par (k : Nat) : Nat := (k - 1) / 2
def Heap (I : Nat → Int × Int) (n : Nat) : Prop := ∀ k, 0 < k → k < n → bet (I k) (I (par k)) = false
/-- A heap but for place j, which may be too good. -/
def UpPre (I : Nat → Int × Int) (n j : Nat) : Prop :=
  (∀ k, 0 < k → k < n → k ≠ j → bet (I k) (I (par k)) = false) ∧ (∀ c, 0 < c → c < n → par c = j → 0 < j → bet (I c) (I (par j)) = false)
/-- A heap but for place i, which may be anything. -/
def DnPre (I : Nat → Int × Int) (n i : Nat) : Prop :=
  (∀ k, 0 < k → k < n → k ≠ i → par k ≠ i → bet (I k) (I (par k)) = false) ∧ (∀ c, 0 < c → c < n → par c = i → 0 < i → bet (I c) (I (par i)) = false)

theorem Heap.top {I : Nat → Int × Int} {n : Nat} (h : Heap I n) : ∀ k, k < n → bet (I k) (I 0) = false := by
  intro k
  induction k using Nat.strongRecOn with
  | _ k ih =>
    intro hk
    by_cases h0 : k = 0
    · subst h0; exact bet_self _
    · exact bet_le_trans (h k (by omega) hk) (ih (par k) (by unfold par; omega) (by unfold par; omega))

theorem UpPre.stop0 {I : Nat → Int × Int} {n : Nat} (h : UpPre I n 0) : Heap I n := fun k h0 hk => h.1 k h0 hk (by omega)
theorem UpPre.stop {I : Nat → Int × Int} {n j : Nat} (h : UpPre I n j) (hj : bet (I j) (I (par j)) = false) : Heap I n := fun k h0 hk => by
  by_cases e : k = j
  · subst e; exact hj
  · exact h.1 k h0 hk e
theorem UpPre.step {I : Nat → Int × Int} {n j : Nat} (h : UpPre I n j) (h0 : 0 < j) (hn : j < n) (hb : bet (I j) (I (par j)) = true) : UpPre (swp I (par j) j) n (par j) := by
  have hpj : par j ≠ j := by unfold par; omega
  refine ⟨fun k k0 kn hk => ?_, fun c c0 cn hc hp => ?_⟩
  · by_cases e : k = j
    · subst e
      rw [swp_r, swp_l]
      exact bet_asymm hb
    · rw [swp_o I hk e]
      by_cases e1 : par k = par j
      · rw [e1, swp_l]
        have := h.1 k k0 kn e
        rw [e1] at this
        exact bet_le_lt this hb
      · by_cases e2 : par k = j
        · rw [e2, swp_r]
          exact h.2 k k0 kn e2 h0
        · rw [swp_o I e1 e2]
          exact h.1 k k0 kn e
  · have hpp : par (par j) ≠ par j := by unfold par at *; omega
    have hpp2 : par (par j) ≠ j := by unfold par at *; omega
    rw [swp_o I hpp hpp2]
    have h1 := h.1 (par j) hp (by unfold par; omega) hpj
    by_cases e : c = j
    · subst e
      rw [swp_r]
      exact h1
    · by_cases e2 : c = par j
      · subst e2; unfold par at *; omega
      · rw [swp_o I e2 e]
        have := h.1 c c0 cn e
        rw [hc] at this
        exact bet_le_trans this h1

/-- The better child of i among the first n. -/
theorem DnPre.step {I : Nat → Int × Int} {n i j : Nat} (h : DnPre I n i) (hj : j = 2 * i + 1 ∨ j = 2 * i + 2) (hn : j < n) (hb : bet (I j) (I i) = true)
    (hs : ∀ s, 0 < s → s < n → par s = i → bet (I s) (I j) = false) : DnPre (swp I i j) n j ∧ bet (swp I i j j) (swp I i j (par j)) = false := by
  have hpj : par j = i := by unfold par; omega
  have hij : i ≠ j := by omega
  refine ⟨⟨fun k k0 kn hk hkp => ?_, fun c c0 cn hc _ => ?_⟩, ?_⟩
  · by_cases e : k = i
    · subst e
      rw [swp_l, swp_o I (by unfold par; omega) (by unfold par; omega)]
      exact h.2 j (by omega) hn hpj k0
    · rw [swp_o I e hk]
      by_cases e2 : par k = i
      · rw [e2, swp_l]
        exact hs k k0 kn e2
      · rw [swp_o I e2 hkp]
        exact h.1 k k0 kn e e2
  · rw [hpj, swp_l]
    have hci : c ≠ i := by unfold par at hc; omega
    have hcj : c ≠ j := by unfold par at hc; omega
    rw [swp_o I hci hcj]
    have := h.1 c c0 cn hci (by omega)
    rw [hc] at this
    exact this
  · rw [hpj, swp_l, swp_r]
    exact bet_asymm hb
/-- No child is better: all but place i is a heap. -/
theorem DnPre.stop {I : Nat → Int × Int} {n i : Nat} (h : DnPre I n i) (hs : ∀ s, 0 < s → s < n → par s = i → bet (I s) (I i) = false) : UpPre I n i :=
  ⟨fun k k0 kn hk => by
    by_cases e : par k = i
    · rw [e]; exact hs k k0 kn e
    · exact h.1 k k0 kn hk e, h.2⟩

theorem Heap.dn {I : Nat → Int × Int} {n i : Nat} (h : Heap I n) (J : Nat → Int × Int) (hJ : ∀ k, k < n → k ≠ i → J k = I k) (hi : i < n) : DnPre J n i := by
  refine ⟨fun k k0 kn hk hkp => ?_, fun c c0 cn hc hi0 => ?_⟩
  · rw [hJ k kn hk, hJ (par k) (by unfold par; omega) hkp]
    exact h k k0 kn
  · have hpi : par i ≠ i := by unfold par; omega
    have hci : c ≠ i := by unfold par at hc; omega
    rw [hJ c cn hci, hJ (par i) (by unfold par; omega) hpi]
    have h1 := h c c0 cn
    rw [hc] at h1
    exact bet_le_trans h1 (h i hi0 hi)
theorem Heap.less {I : Nat → Int × Int} {n m : Nat} (h : Heap I n) (hm : m ≤ n) : Heap I m := fun k k0 kn => h k k0 (by omega)
theorem Heap.push {I J : Nat → Int × Int} {n : Nat} (h : Heap I n) (hJ : ∀ k, k < n → J k = I k) : UpPre J (n + 1) n := by
  refine ⟨fun k k0 kn hk => ?_, fun c c0 cn hc _ => by unfold par at hc; omega⟩
  rw [hJ k (by omega), hJ (par k) (by unfold par; omega)]
  exact h k k0 (by omega)

/-- The same pairs stand in the first n places. -/
def Same (n : Nat) (I J : Nat → Int × Int) : Prop := ∀ x, (∃ i, i < n ∧ J i = x) ↔ (∃ i, i < n ∧ I i = x)
theorem Same.refl (n : Nat) (I : Nat → Int × Int) : Same n I I := fun _ => Iff.rfl
theorem Same.trans {n : Nat} {I J K : Nat → Int × Int} (h : Same n I J) (k : Same n J K) : Same n I K := fun x => (k x).trans (h x)
theorem Same.swapped {n : Nat} {I : Nat → Int × Int} {i j : Nat} (hi : i < n) (hj : j < n) : Same n I (swp I i j) := by
  intro x
  constructor
  · rintro ⟨k, hk, rfl⟩
    by_cases e : k = i
    · exact ⟨j, hj, by rw [e, swp_l]⟩
    · by_cases e2 : k = j
      · exact ⟨i, hi, by rw [e2, swp_r]⟩
      · exact ⟨k, hk, by rw [swp_o I e e2]⟩
  · rintro ⟨k, hk, rfl⟩
    by_cases e : k = i
    · exact ⟨j, hj, by rw [e, swp_r]⟩
    · by_cases e2 : k = j
      · exact ⟨i, hi, by rw [e2, swp_l]⟩
      · exact ⟨k, hk, by rw [swp_o I e e2]⟩
/-- The numbers are unlike. -/
def Ids (n : Nat) (I : Nat → Int × Int) : Prop := ∀ i j, i < n → j < n → (I i).1 = (I j).1 → i = j
theorem Ids.swapped {n : Nat} {I : Nat → Int × Int} (h : Ids n I) {i j : Nat} (hi : i < n) (hj : j < n) : Ids n (swp I i j) := by
  have key : ∀ a, a < n → ∃ a', a' < n ∧ swp I i j a = I a' ∧ (a' = if a = i then j else if a = j then i else a) := by
    intro a ha
    by_cases e : a = i
    · exact ⟨j, hj, by rw [e, swp_l], by simp [e]⟩
    · by_cases e2 : a = j
      · exact ⟨i, hi, by rw [e2, swp_r], by subst e2; simp [e]⟩
      · exact ⟨a, ha, by rw [swp_o I e e2], by simp [e, e2]⟩
  intro a b ha hb e
  obtain ⟨a', ha', ea, fa⟩ := key a ha
  obtain ⟨b', hb', eb, fb⟩ := key b hb
  rw [ea, eb] at e
  have := h a' b' ha' hb' e
  subst this
  rw [fa] at fb
  split at fb <;> split at fb <;> (try split at fb) <;> (try split at fb) <;> omega

/-- What the first n pairs tell of a number. -/
def Tells (n : Nat) (I : Nat → Int × Int) (K : Int → Option Int) : Prop := ∀ id key, K id = some key ↔ ∃ i, i < n ∧ I i = (id, key)
theorem Tells.same {n : Nat} {I J : Nat → Int × Int} {K : Int → Option Int} (h : Tells n I K) (s : Same n I J) : Tells n J K := fun id key => (h id key).trans (s (id, key)).symm
end Go.Proofs.Ythcjmbfhcdkffaa
