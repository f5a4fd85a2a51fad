/-
  Sizes of diagrams: of opposites, of two together; at least a node for each variable, at most seventy-seven.
-/
import Derived.Test.YtmfocngdobcfcabDoorLvl
namespace Go.Proofs.YtmfocngdobcfcabDoor
open Go Go.RowKit

theorem sub_len : ∀ (l s : List Nat), l.Nodup → (∀ u ∈ l, u ∈ s) → l.length ≤ s.length
  | [], _, _, _ => Nat.zero_le _
  | a :: l, s, hn, h => by
    rw [List.nodup_cons] at hn
    have ha := h a List.mem_cons_self
    have ih := sub_len l (s.erase a) hn.2 fun u hu => (List.mem_erase_of_ne (fun e : u = a => hn.1 (by rw [← e]; exact hu))).2 (h u (List.mem_cons_of_mem _ hu))
    rw [List.length_erase_of_mem ha] at ih
    have : 0 < s.length := List.length_pos_of_mem ha
    simp only [List.length_cons]
    omega
theorem nodup_map {p : Nat → Nat} : ∀ (l : List Nat), l.Nodup → (∀ u ∈ l, ∀ t ∈ l, p u = p t → u = t) → (l.map p).Nodup
  | [], _, _ => by simp
  | a :: l, hn, hi => by
    rw [List.nodup_cons] at hn
    rw [List.map_cons, List.nodup_cons]
    refine ⟨fun hc => ?_, nodup_map l hn.2 fun u hu t ht => hi u (List.mem_cons_of_mem _ hu) t (List.mem_cons_of_mem _ ht)⟩
    obtain ⟨t, ht, e⟩ := List.mem_map.1 hc
    have := hi t (List.mem_cons_of_mem _ ht) a List.mem_cons_self e
    exact hn.1 (this ▸ ht)
theorem inj_len {p : Nat → Nat} {l s : List Nat} (hn : l.Nodup) (hi : ∀ u ∈ l, ∀ t ∈ l, p u = p t → u = t) (h : ∀ u ∈ l, p u ∈ s) : l.length ≤ s.length := by
  have := sub_len (l.map p) s (nodup_map l hn hi) fun u hu => by
    obtain ⟨t, ht, rfl⟩ := List.mem_map.1 hu
    exact h t ht
  simpa using this

/-- An order of the eight variables. -/
structure IsOrder (V : Nat → Int) : Prop where
  range : ∀ i, i < 8 → 0 ≤ V i ∧ V i < 8
  inj : ∀ i j, i < 8 → j < 8 → V i = V j → i = j
  all : ∀ v : Nat, v < 8 → ∃ i, i < 8 ∧ V i = (v : Int)

theorem indep_all {u : Nat} (h : ∀ v, v < 8 → Indep u v) : ∀ x y, x < 256 → y < 256 → u.testBit x = u.testBit y := by
  intro x y hx hy
  have key : ∀ k, k ≤ 8 → u.testBit (asm fun v => if v < k then M v y else M v x) = u.testBit x := by
    intro k
    induction k with
    | zero =>
      intro _
      congr 1
      exact bits_ext (asm_lt _) hx fun v hv => by rw [asm_M _ v hv]; simp
    | succ k ih =>
      intro hk
      have e1 : (asm fun v => if v < k + 1 then M v y else M v x) = fixAt k (M k y) (asm fun v => if v < k then M v y else M v x) := by
        refine bits_ext (asm_lt _) (fixAt_lt _ _ _ (by omega) (asm_lt _)) fun v hv => ?_
        rw [asm_M _ v hv, M_fixAt v k _ _ hv (by omega) (asm_lt _), asm_M _ v hv]
        by_cases e : v = k
        · subst e; rw [if_pos (by omega), if_pos rfl]
        · rw [if_neg e]
          by_cases q : v < k
          · rw [if_pos q, if_pos (by omega)]
          · rw [if_neg q, if_neg (by omega)]
      rw [e1, h k (by omega) _ (asm_lt _) (M k y), ih (by omega)]
  rw [← key 8 (Nat.le_refl _)]
  congr 1
  exact bits_ext (asm_lt _) hy fun v hv => by rw [asm_M _ v hv, if_pos hv]
theorem const_of {u : Nat} (hu : u < top) (h : ∀ v, v < 8 → Indep u v) : ncB u = false := by
  have hc := indep_all h
  unfold ncB
  cases h0 : u.testBit 0 with
  | false =>
    have : u = c0 := top_ext hu c0_lt fun x hx => by rw [hc x 0 hx (by decide), h0, c0, code_bit _ _ hx]
    simp [this]
  | true =>
    have : u = c1 := top_ext hu c1_lt fun x hx => by rw [hc x 0 hx (by decide), h0, c1, code_bit _ _ hx]
    simp [this]
section
variable {V : Nat → Int} (hV : IsOrder V) (T : Nat → Nat → Bool) (n : Nat)
theorem to_nat (i : Nat) (hi : i < 8) (hV : IsOrder V) : ((V i).toNat : Int) = V i := by have := hV.range i hi; omega
theorem lvl_indep (hV : IsOrder V) {k u : Nat} (hk : k ≤ 8) (h : u ∈ lvl T n V k) : ∀ j, j < k → Indep u (V j).toNat := fun j hj => (hangs_iff (hV.range j (by omega)) u).1 (lvl_free T n V k u h j hj)
theorem left_nil (hV : IsOrder V) : ((lvl T n V 8).filter ncB) = [] := by
  rw [List.filter_eq_nil_iff]
  intro u hu
  rw [const_of (lvl_lt T n V 8 u hu)]
  · simp
  · intro v hv
    obtain ⟨i, hi, e⟩ := hV.all v hv
    have := lvl_indep T n hV (Nat.le_refl 8) hu i hi
    rwa [e] at this
theorem size_cnt (hV : IsOrder V) : sizeN T n V 8 = cntUpto T n V 8 := by
  have h := left_nil T n hV
  unfold sizeN
  have e : ((lvl T n V 8).filter fun u => decide (u ≠ c0) && decide (u ≠ c1)) = (lvl T n V 8).filter ncB := rfl
  rw [e, h]
  rfl
end

/-! ### Levels of several functions -/
theorem lvl_sub (T S : Nat → Nat → Bool) (n m : Nat) (V : Nat → Int) (h : ∀ u, u ∈ firstL T n → u ∈ firstL S m) : ∀ k u, u ∈ lvl T n V k → u ∈ lvl S m V k
  | 0, u, hu => h u hu
  | k + 1, u, hu => by
    obtain ⟨t, ht, e⟩ := mem_nextL.1 hu
    exact mem_nextL.2 ⟨t, lvl_sub T S n m V h k t ht, e⟩
theorem lvl_or (T S R : Nat → Nat → Bool) (n m q : Nat) (V : Nat → Int) (h : ∀ u, u ∈ firstL R q → u ∈ firstL T n ∨ u ∈ firstL S m) : ∀ k u, u ∈ lvl R q V k → u ∈ lvl T n V k ∨ u ∈ lvl S m V k
  | 0, u, hu => h u hu
  | k + 1, u, hu => by
    obtain ⟨t, ht, e⟩ := mem_nextL.1 hu
    rcases lvl_or T S R n m q V h k t ht with g | g
    · exact Or.inl (mem_nextL.2 ⟨t, g, e⟩)
    · exact Or.inr (mem_nextL.2 ⟨t, g, e⟩)
theorem cnt_sub (T S : Nat → Nat → Bool) (n m : Nat) (V : Nat → Int) (h : ∀ u, u ∈ firstL T n → u ∈ firstL S m) : ∀ k, cntUpto T n V k ≤ cntUpto S m V k
  | 0 => Nat.le_refl _
  | k + 1 => by
    have ih := cnt_sub T S n m V h k
    rw [cntUpto, cntUpto, List.countP_eq_length_filter, List.countP_eq_length_filter]
    have := sub_len ((lvl T n V k).filter (hangs (V k))) ((lvl S m V k).filter (hangs (V k))) ((nodup_lvl T n V k).filter _) fun u hu => by
      rw [List.mem_filter] at hu ⊢
      exact ⟨lvl_sub T S n m V h k u hu.1, hu.2⟩
    omega
theorem cnt_or (T S R : Nat → Nat → Bool) (n m q : Nat) (V : Nat → Int) (h : ∀ u, u ∈ firstL R q → u ∈ firstL T n ∨ u ∈ firstL S m) : ∀ k, cntUpto R q V k ≤ cntUpto T n V k + cntUpto S m V k
  | 0 => Nat.le_refl _
  | k + 1 => by
    have ih := cnt_or T S R n m q V h k
    rw [cntUpto, cntUpto, cntUpto, List.countP_eq_length_filter, List.countP_eq_length_filter, List.countP_eq_length_filter]
    have := sub_len ((lvl R q V k).filter (hangs (V k))) ((lvl T n V k).filter (hangs (V k)) ++ (lvl S m V k).filter (hangs (V k))) ((nodup_lvl R q V k).filter _) fun u hu => by
      rw [List.mem_filter] at hu
      rw [List.mem_append, List.mem_filter, List.mem_filter]
      rcases lvl_or T S R n m q V h k u hu.1 with g | g
      · exact Or.inl ⟨g, hu.2⟩
      · exact Or.inr ⟨g, hu.2⟩
    rw [List.length_append] at this
    omega

/-! ### The opposite -/
def cm (t : Nat) : Nat := code fun x => !t.testBit x
theorem cm_bit (t x : Nat) (hx : x < 256) : (cm t).testBit x = !t.testBit x := code_bit _ _ hx
theorem cm_inj {s t : Nat} (hs : s < top) (ht : t < top) (h : cm s = cm t) : s = t :=
  top_ext hs ht fun x hx => by
    have := cm_bit s x hx
    rw [h, cm_bit t x hx] at this
    simpa using this.symm
theorem cm_fix (t : Nat) (v : Int) (b : Bool) (ht : t < top) : fixC (cm t) v b = cm (fixC t v b) := by
  refine top_ext (fixC_lt _ _ _) (code_lt _) fun x hx => ?_
  by_cases hv : 0 ≤ v ∧ v < 8
  · rw [fixC_bit hv b x hx, cm_bit _ _ (fixAt_lt _ _ _ (by omega) hx), cm_bit _ _ hx, fixC_bit hv b x hx]
  · rw [fixC_no (t := cm t) hv b (code_lt _), fixC_no hv b ht]
theorem cm_hangs (t : Nat) (v : Int) (ht : t < top) : hangs v (cm t) = hangs v t := by
  unfold hangs
  rw [cm_fix t v false ht, cm_fix t v true ht]
  rw [decide_eq_decide]
  refine not_congr ⟨fun h => cm_inj (fixC_lt _ _ _) (fixC_lt _ _ _) h, fun h => by rw [h]⟩
theorem lvl_not (T : Nat → Nat → Bool) (n : Nat) (V : Nat → Int) : ∀ k u, u ∈ lvl (fun i x => !T i x) n V k ↔ ∃ t ∈ lvl T n V k, u = cm t
  | 0, u => by
    show u ∈ firstL _ n ↔ ∃ t ∈ firstL T n, u = cm t
    have key : ∀ i, code (fun x => !T i x) = cm (code (T i)) := fun i => code_eq.2 fun x hx => by rw [code_bit _ _ hx]
    rw [mem_firstL]
    constructor
    · rintro ⟨i, hi, rfl⟩
      exact ⟨code (T i), (mem_firstL T n _).2 ⟨i, hi, rfl⟩, key i⟩
    · rintro ⟨t, ht, rfl⟩
      obtain ⟨i, hi, rfl⟩ := (mem_firstL T n t).1 ht
      exact ⟨i, hi, (key i).symm⟩
  | k + 1, u => by
    rw [lvl, mem_nextL]
    constructor
    · rintro ⟨t, ht, e⟩
      obtain ⟨s, hs, rfl⟩ := (lvl_not T n V k t).1 ht
      have hst := lvl_lt T n V k s hs
      rw [cm_fix _ _ _ hst, cm_fix _ _ _ hst] at e
      rcases e with rfl | rfl
      · exact ⟨_, mem_nextL.2 ⟨s, hs, Or.inl rfl⟩, rfl⟩
      · exact ⟨_, mem_nextL.2 ⟨s, hs, Or.inr rfl⟩, rfl⟩
    · rintro ⟨t, ht, rfl⟩
      obtain ⟨s, hs, e⟩ := mem_nextL.1 ht
      have hst := lvl_lt T n V k s hs
      refine ⟨cm s, (lvl_not T n V k _).2 ⟨s, hs, rfl⟩, ?_⟩
      rw [cm_fix _ _ _ hst, cm_fix _ _ _ hst]
      rcases e with rfl | rfl
      · exact Or.inl rfl
      · exact Or.inr rfl
theorem cnt_not (T : Nat → Nat → Bool) (n : Nat) (V : Nat → Int) : ∀ k, cntUpto (fun i x => !T i x) n V k = cntUpto T n V k
  | 0 => rfl
  | k + 1 => by
    rw [cntUpto, cntUpto, cnt_not T n V k, List.countP_eq_length_filter, List.countP_eq_length_filter]
    congr 1
    rw [show ((lvl T n V k).filter (hangs (V k))).length = (((lvl T n V k).filter (hangs (V k))).map cm).length from (List.length_map _).symm]
    refine len_of_mem ((nodup_lvl _ n V k).filter _) (nodup_map _ ((nodup_lvl T n V k).filter _) fun u hu t ht e => ?_) fun u => ?_
    · rw [List.mem_filter] at hu ht
      exact cm_inj (lvl_lt T n V k u hu.1) (lvl_lt T n V k t ht.1) e
    · rw [List.mem_filter, List.mem_map, lvl_not]
      constructor
      · rintro ⟨⟨t, ht, rfl⟩, h⟩
        rw [cm_hangs _ _ (lvl_lt T n V k t ht)] at h
        exact ⟨t, List.mem_filter.2 ⟨ht, h⟩, rfl⟩
      · rintro ⟨t, ht, rfl⟩
        rw [List.mem_filter] at ht
        refine ⟨⟨t, ht.1, rfl⟩, ?_⟩
        rw [cm_hangs _ _ (lvl_lt T n V k t ht.1)]
        exact ht.2
end Go.Proofs.YtmfocngdobcfcabDoor
