/-
  The levels of a diagram as lists of numbers: what hangs on a variable lies on one level alone.
-/
import Derived.Test.YtmfocngdobcfcabDoorPsize
import Derived.Test.YtmfocngdobcfcabDoorPure
namespace Go.Proofs.YtmfocngdobcfcabDoor
open Go Go.RowKit

/-- The table doesn't hang on the variable. -/
def Indep (t v : Nat) : Prop := ∀ x, x < 256 → ∀ b, t.testBit (fixAt v b x) = t.testBit x
theorem fixI_at {t : Nat} {v : Int} (hv : 0 ≤ v ∧ v < 8) (b : Bool) (x : Nat) : fixI t.testBit v b x = t.testBit (fixAt v.toNat b x) := by
  unfold fixI; rw [if_pos hv]; rfl
theorem fixI_no {t : Nat} {v : Int} (hv : ¬ (0 ≤ v ∧ v < 8)) (b : Bool) : fixI t.testBit v b = t.testBit := by
  unfold fixI; rw [if_neg hv]
theorem fixC_bit {t : Nat} {v : Int} (hv : 0 ≤ v ∧ v < 8) (b : Bool) (x : Nat) (hx : x < 256) : (fixC t v b).testBit x = t.testBit (fixAt v.toNat b x) := by
  rw [fixC, code_bit _ _ hx, fixI_at hv]
theorem fixC_no {t : Nat} {v : Int} (hv : ¬ (0 ≤ v ∧ v < 8)) (b : Bool) (ht : t < top) : fixC t v b = t := by
  rw [fixC, fixI_no hv, code_of ht]
theorem top_ext {s t : Nat} (hs : s < top) (ht : t < top) (h : ∀ x, x < 256 → s.testBit x = t.testBit x) : s = t := by
  rw [← code_of hs, ← code_of ht]
  exact code_eq.2 h
theorem fixAt_twice (v x : Nat) (b c : Bool) (hv : v < 8) (hx : x < 256) : fixAt v b (fixAt v c x) = fixAt v b x := by
  have h1 := fixAt_lt v x c hv hx
  refine bits_ext (fixAt_lt v _ b hv h1) (fixAt_lt v x b hv hx) fun u hu => ?_
  rw [M_fixAt u v _ b hu hv h1, M_fixAt u v x b hu hv hx, M_fixAt u v x c hu hv hx]
  by_cases e : u = v
  · rw [if_pos e, if_pos e]
  · rw [if_neg e, if_neg e, if_neg e]
theorem fixAt_comm (u v x : Nat) (b c : Bool) (hu : u < 8) (hv : v < 8) (hx : x < 256) (huv : u ≠ v) : fixAt u b (fixAt v c x) = fixAt v c (fixAt u b x) := by
  have h1 := fixAt_lt v x c hv hx
  have h2 := fixAt_lt u x b hu hx
  refine bits_ext (fixAt_lt u _ b hu h1) (fixAt_lt v _ c hv h2) fun k hk => ?_
  rw [M_fixAt k u _ b hk hu h1, M_fixAt k v x c hk hv hx, M_fixAt k v _ c hk hv h2, M_fixAt k u x b hk hu hx]
  by_cases e : k = u
  · subst e
    rw [if_pos rfl, if_neg huv, if_pos rfl]
  · rw [if_neg e, if_neg e]
theorem hangs_no {v : Int} (hv : ¬ (0 ≤ v ∧ v < 8)) (t : Nat) : hangs v t = false := by
  unfold hangs fixC
  rw [fixI_no hv, fixI_no hv]
  simp
theorem hangs_iff {v : Int} (hv : 0 ≤ v ∧ v < 8) (t : Nat) : hangs v t = false ↔ Indep t v.toNat := by
  have hv8 : v.toNat < 8 := by omega
  unfold hangs
  simp only [ne_eq, decide_not, Bool.not_eq_false', decide_eq_true_eq]
  constructor
  · intro h x hx b
    have key : ∀ c, t.testBit (fixAt v.toNat c x) = t.testBit (fixAt v.toNat false x) := fun c => by
      cases c with
      | false => rfl
      | true =>
        rw [← fixC_bit hv true x hx, ← fixC_bit hv false x hx, h]
    rw [key b, ← key (M v.toNat x), fixAt_self v.toNat x hv8 hx]
  · intro h
    refine top_ext (fixC_lt _ _ _) (fixC_lt _ _ _) fun x hx => ?_
    rw [fixC_bit hv false x hx, fixC_bit hv true x hx, h x hx false, h x hx true]
theorem fixC_id {v : Int} {t : Nat} (ht : t < top) (h : hangs v t = false) (b : Bool) : fixC t v b = t := by
  by_cases hv : 0 ≤ v ∧ v < 8
  · have hi := (hangs_iff hv t).1 h
    exact top_ext (fixC_lt _ _ _) ht fun x hx => by rw [fixC_bit hv b x hx, hi x hx b]
  · exact fixC_no hv b ht
theorem hangs_fix (v : Int) (t : Nat) (b : Bool) : hangs v (fixC t v b) = false := by
  by_cases hv : 0 ≤ v ∧ v < 8
  · have hv8 : v.toNat < 8 := by omega
    rw [hangs_iff hv]
    intro x hx c
    rw [fixC_bit hv b _ (fixAt_lt _ _ _ hv8 hx), fixC_bit hv b x hx, fixAt_twice _ _ _ _ hv8 hx]
  · exact hangs_no hv _
theorem hangs_keep {u v : Int} {t : Nat} (b : Bool) (h : hangs u t = false) : hangs u (fixC t v b) = false := by
  by_cases hu : 0 ≤ u ∧ u < 8
  · have hu8 : u.toNat < 8 := by omega
    by_cases hv : 0 ≤ v ∧ v < 8
    · have hv8 : v.toNat < 8 := by omega
      by_cases e : u = v
      · subst e; exact hangs_fix _ _ _
      · rw [hangs_iff hu] at h ⊢
        intro x hx c
        rw [fixC_bit hv b _ (fixAt_lt _ _ _ hu8 hx), fixC_bit hv b x hx, fixAt_comm _ _ _ _ _ hv8 hu8 hx (by omega), h _ (fixAt_lt _ _ _ hv8 hx) c]
    · rw [hangs_iff hu] at h ⊢
      intro x hx c
      have e : ∀ y, y < 256 → (fixC t v b).testBit y = t.testBit y := fun y hy => by rw [fixC, code_bit _ _ hy, fixI_no hv]
      rw [e _ (fixAt_lt _ _ _ hu8 hx), e x hx, h x hx c]
  · exact hangs_no hu _
theorem c0_lt : c0 < top := code_lt _
theorem c1_lt : c1 < top := code_lt _
theorem hangs_c0 (v : Int) : hangs v c0 = false := by
  by_cases hv : 0 ≤ v ∧ v < 8
  · rw [hangs_iff hv]
    intro x hx b
    rw [c0, code_bit _ _ hx, code_bit _ _ (fixAt_lt _ _ _ (by omega) hx)]
  · exact hangs_no hv _
theorem hangs_c1 (v : Int) : hangs v c1 = false := by
  by_cases hv : 0 ≤ v ∧ v < 8
  · rw [hangs_iff hv]
    intro x hx b
    rw [c1, code_bit _ _ hx, code_bit _ _ (fixAt_lt _ _ _ (by omega) hx)]
  · exact hangs_no hv _

section
variable (T : Nat → Nat → Bool) (n : Nat) (V : Nat → Int)
theorem mem_firstL : ∀ k u, u ∈ firstL T k ↔ ∃ i, i < k ∧ u = code (T i)
  | 0, u => by simp [firstL]
  | k + 1, u => by
    rw [firstL, mem_ins, mem_firstL k u]
    constructor
    · rintro (⟨i, hi, e⟩ | e)
      · exact ⟨i, by omega, e⟩
      · exact ⟨k, by omega, e⟩
    · rintro ⟨i, hi, e⟩
      by_cases h : i = k
      · subst h; exact Or.inr e
      · exact Or.inl ⟨i, by omega, e⟩
theorem lvl_lt : ∀ k u, u ∈ lvl T n V k → u < top
  | 0, u, h => by
    obtain ⟨i, _, rfl⟩ := (mem_firstL T n u).1 h
    exact code_lt _
  | k + 1, u, h => by
    obtain ⟨t, _, rfl | rfl⟩ := mem_nextL.1 h
    · exact fixC_lt _ _ _
    · exact fixC_lt _ _ _
theorem lvl_free : ∀ k u, u ∈ lvl T n V k → ∀ j, j < k → hangs (V j) u = false
  | 0, _, _, j, hj => absurd hj (Nat.not_lt_zero j)
  | k + 1, u, h, j, hj => by
    obtain ⟨t, ht, hu⟩ := mem_nextL.1 h
    by_cases e : j = k
    · subst e
      rcases hu with rfl | rfl <;> exact hangs_fix _ _ _
    · have := lvl_free k t ht j (by omega)
      rcases hu with rfl | rfl <;> exact hangs_keep _ this
theorem lvl_down {k u : Nat} (h : u ∈ lvl T n V k) (hh : hangs (V k) u = false) : u ∈ lvl T n V (k + 1) := by
  refine mem_nextL.2 ⟨u, h, Or.inl (fixC_id (lvl_lt T n V k u h) hh false).symm⟩
theorem lvl_up {u j : Nat} (h : u ∈ lvl T n V j) : ∀ k, j ≤ k → (∀ i, i < k → hangs (V i) u = false) → u ∈ lvl T n V k
  | 0, hk, _ => by obtain rfl : j = 0 := by omega
                   exact h
  | k + 1, hk, hf => by
    by_cases e : j = k + 1
    · subst e; exact h
    · exact lvl_down T n V (lvl_up h k (by omega) fun i hi => hf i (by omega)) (hf k (by omega))
end
/-- No constant. -/
def ncB (u : Nat) : Bool := decide (u ≠ c0) && decide (u ≠ c1)
theorem hangs_nc {v : Int} {u : Nat} (h : hangs v u = true) : ncB u = true := by
  unfold ncB
  simp only [Bool.and_eq_true, decide_eq_true_eq]
  refine ⟨fun e => ?_, fun e => ?_⟩
  · rw [e, hangs_c0] at h; cases h
  · rw [e, hangs_c1] at h; cases h
theorem ins_len {ts : List Nat} {t : Nat} : (ins ts t).length = ts.length + if t ∈ ts then 0 else 1 := by
  unfold ins
  split <;> simp
/-- All inner ones so far. -/
def addA (acc : List Nat) (t : Nat) : List Nat := if ncB t then ins acc t else acc
theorem mem_addA {acc : List Nat} {t u : Nat} : u ∈ addA acc t ↔ u ∈ acc ∨ (u = t ∧ ncB u = true) := by
  unfold addA
  split
  · rename_i h
    rw [mem_ins]
    constructor
    · rintro (h1 | rfl)
      · exact Or.inl h1
      · exact Or.inr ⟨rfl, h⟩
    · rintro (h1 | ⟨rfl, _⟩)
      · exact Or.inl h1
      · exact Or.inr rfl
  · rename_i h
    constructor
    · exact Or.inl
    · rintro (h1 | ⟨rfl, h2⟩)
      · exact h1
      · exact absurd h2 h
theorem mem_foldA : ∀ (ts acc : List Nat) (u : Nat), u ∈ ts.foldl addA acc ↔ u ∈ acc ∨ (u ∈ ts ∧ ncB u = true)
  | [], acc, u => by simp
  | t :: ts, acc, u => by
    rw [List.foldl_cons, mem_foldA ts, mem_addA, List.mem_cons]
    constructor
    · rintro ((h | ⟨rfl, h⟩) | ⟨h, h2⟩)
      · exact Or.inl h
      · exact Or.inr ⟨Or.inl rfl, h⟩
      · exact Or.inr ⟨Or.inr h, h2⟩
    · rintro (h | ⟨rfl | h, h2⟩)
      · exact Or.inl (Or.inl h)
      · exact Or.inl (Or.inr ⟨rfl, h2⟩)
      · exact Or.inr ⟨h, h2⟩
theorem foldA_len : ∀ (ts acc : List Nat), ts.Nodup → (ts.foldl addA acc).length = acc.length + (ts.filter fun u => ncB u && !decide (u ∈ acc)).length
  | [], acc, _ => by simp
  | t :: ts, acc, hn => by
    rw [List.nodup_cons] at hn
    rw [List.foldl_cons, foldA_len ts _ hn.2]
    have hf : (ts.filter fun u => ncB u && !decide (u ∈ addA acc t)) = ts.filter fun u => ncB u && !decide (u ∈ acc) := by
      apply List.filter_congr
      intro u hu
      have hut : u ≠ t := fun e => hn.1 (e ▸ hu)
      have : (u ∈ addA acc t) ↔ u ∈ acc := by
        rw [mem_addA]
        constructor
        · rintro (h | ⟨h, _⟩)
          · exact h
          · exact absurd h hut
        · exact Or.inl
      simp only [this]
    rw [hf, List.filter_cons]
    unfold addA
    by_cases h1 : ncB t = true
    · rw [if_pos h1, ins_len, h1, Bool.true_and]
      by_cases h2 : t ∈ acc
      · simp [h2]
      · simp [h2]; omega
    · simp [h1]
def allC (T : Nat → Nat → Bool) (n : Nat) (V : Nat → Int) : Nat → List Nat
  | 0 => []
  | k + 1 => (lvl T n V k).foldl addA (allC T n V k)
theorem mem_allC (T : Nat → Nat → Bool) (n : Nat) (V : Nat → Int) : ∀ k u, u ∈ allC T n V k ↔ ncB u = true ∧ ∃ j, j < k ∧ u ∈ lvl T n V j
  | 0, u => by simp [allC]
  | k + 1, u => by
    rw [allC, mem_foldA, mem_allC T n V k u]
    constructor
    · rintro (⟨h, j, hj, hu⟩ | ⟨hu, h⟩)
      · exact ⟨h, j, by omega, hu⟩
      · exact ⟨h, k, by omega, hu⟩
    · rintro ⟨h, j, hj, hu⟩
      by_cases e : j = k
      · subst e; exact Or.inr ⟨hu, h⟩
      · exact Or.inl ⟨h, j, by omega, hu⟩
theorem len_of_mem {l m : List Nat} (hl : l.Nodup) (hm : m.Nodup) (h : ∀ u, u ∈ l ↔ u ∈ m) : l.length = m.length :=
  ((List.perm_ext_iff_of_nodup hl hm).2 h).length_eq
theorem split_len (p q : Nat → Bool) : ∀ (l : List Nat), (l.filter fun u => p u && q u).length + (l.filter fun u => p u && !q u).length = (l.filter p).length
  | [] => rfl
  | t :: l => by
    have ih := split_len p q l
    simp only [List.filter_cons]
    cases p t <;> cases q t <;> simp <;> omega
theorem allC_len (T : Nat → Nat → Bool) (n : Nat) (V : Nat → Int) : ∀ k, (allC T n V (k + 1)).length = cntUpto T n V k + ((lvl T n V k).filter ncB).length
  | 0 => by
    rw [allC, foldA_len _ _ (nodup_lvl T n V 0), allC, cntUpto]
    simp
  | k + 1 => by
    rw [allC, foldA_len _ _ (nodup_lvl T n V (k + 1)), allC_len T n V k, cntUpto]
    have h1 := split_len ncB (fun u => decide (u ∈ allC T n V (k + 1))) (lvl T n V (k + 1))
    have h2 := split_len ncB (hangs (V k)) (lvl T n V k)
    have h3 : ((lvl T n V (k + 1)).filter fun u => ncB u && decide (u ∈ allC T n V (k + 1))).length = ((lvl T n V k).filter fun u => ncB u && !hangs (V k) u).length := by
      refine len_of_mem ((nodup_lvl T n V (k + 1)).filter _) ((nodup_lvl T n V k).filter _) fun u => ?_
      simp only [List.mem_filter, Bool.and_eq_true, decide_eq_true_eq, Bool.not_eq_true', mem_allC]
      constructor
      · rintro ⟨hu, hc, _, j, hj, huj⟩
        have hf := lvl_free T n V (k + 1) u hu
        exact ⟨lvl_up T n V huj k (by omega) fun i hi => hf i (by omega), hc, hf k (by omega)⟩
      · rintro ⟨hu, hc, hh⟩
        exact ⟨lvl_down T n V hu hh, hc, hc, k, by omega, hu⟩
    have h4 : ((lvl T n V k).filter fun u => ncB u && hangs (V k) u).length = (lvl T n V k).countP (hangs (V k)) := by
      rw [List.countP_eq_length_filter]
      congr 1
      apply List.filter_congr
      intro u _
      cases h : hangs (V k) u with
      | false => simp
      | true => simp [hangs_nc h]
    omega
theorem size_all (T : Nat → Nat → Bool) (n : Nat) (V : Nat → Int) (m : Nat) : (allC T n V (m + 1)).length = sizeN T n V m := by
  rw [allC_len]; rfl
end Go.Proofs.YtmfocngdobcfcabDoor
