/-
  How many nodes a diagram of one function has: at least one for each variable that it hangs on, at most seventy-seven.
-/
import Derived.Test.YtmfocngdobcfcabDoorSizesP
namespace Go.Proofs.YtmfocngdobcfcabDoor
open Go Go.RowKit

theorem indep_agree {u : Nat} {x y : Nat} (hx : x < 256) (hy : y < 256) (h : ∀ v, v < 8 → Indep u v ∨ M v x = M v y) : u.testBit x = u.testBit y := by
  have key : ∀ k, k ≤ 8 → u.testBit (asm fun v => if v < k then M v y else M v x) = u.testBit x := by
    intro k
    induction k with
    | zero =>
      intro _
      congr 1
      exact bits_ext (asm_lt _) hx fun v hv => by rw [asm_M _ v hv]; simp
    | succ k ih =>
      intro hk
      have e1 : (asm fun v => if v < k + 1 then M v y else M v x) = fixAt k (M k y) (asm fun v => if v < k then M v y else M v x) := by
        refine bits_ext (asm_lt _) (fixAt_lt _ _ _ (by omega) (asm_lt _)) fun v hv => ?_
        rw [asm_M _ v hv, M_fixAt v k _ _ hv (by omega) (asm_lt _), asm_M _ v hv]
        by_cases e : v = k
        · subst e; rw [if_pos (by omega), if_pos rfl]
        · rw [if_neg e]
          by_cases q : v < k
          · rw [if_pos q, if_pos (by omega)]
          · rw [if_neg q, if_neg (by omega)]
      rw [e1]
      rcases h k (by omega) with hi | he
      · rw [hi _ (asm_lt _) (M k y), ih (by omega)]
      · have e2 : M k (asm fun v => if v < k then M v y else M v x) = M k y := by rw [asm_M _ k (by omega), if_neg (by omega)]; exact he
        rw [← e2, fixAt_self k _ (by omega) (asm_lt _), ih (by omega)]
  rw [← key 8 (Nat.le_refl _)]
  congr 1
  exact bits_ext (asm_lt _) hy fun v hv => by rw [asm_M _ v hv, if_pos hv]

theorem half_free {t : Nat} {v w : Int} (hv : 0 ≤ v ∧ v < 8) (hw : 0 ≤ w ∧ w < 8) (hvw : v ≠ w) (h0 : hangs v (fixC t w false) = false) (h1 : hangs v (fixC t w true) = false) : hangs v t = false := by
  have hv8 : v.toNat < 8 := by omega
  have hw8 : w.toNat < 8 := by omega
  have hne : v.toNat ≠ w.toNat := by omega
  rw [hangs_iff hv] at h0 h1 ⊢
  intro x hx b
  have hy := fixAt_lt v.toNat x b hv8 hx
  have hM : M w.toNat (fixAt v.toNat b x) = M w.toNat x := by rw [M_fixAt _ _ _ _ hw8 hv8 hx, if_neg (fun e => hne e.symm)]
  have key : ∀ c, (fixC t w c).testBit (fixAt v.toNat b x) = (fixC t w c).testBit x := fun c => by
    cases c with
    | false => exact h0 x hx b
    | true => exact h1 x hx b
  have e1 := key (M w.toNat x)
  rw [fixC_bit hw _ _ hy, fixC_bit hw _ x hx, fixAt_self _ x hw8 hx, ← hM, fixAt_self _ _ hw8 hy] at e1
  exact e1
theorem free_up (T : Nat → Nat → Bool) (n : Nat) (V : Nat → Int) (hV : IsOrder V) {v : Int} (hv : 0 ≤ v ∧ v < 8) : ∀ k, k ≤ 8 → (∀ i, i < k → V i ≠ v) → (∀ u, u ∈ lvl T n V k → hangs v u = false) → ∀ t, t ∈ lvl T n V 0 → hangs v t = false
  | 0, _, _, h => h
  | k + 1, hk, hne, h => free_up T n V hV hv k (by omega) (fun i hi => hne i (by omega)) fun t ht =>
      half_free hv (hV.range k (by omega)) (fun e => hne k (by omega) e.symm) (h _ (mem_nextL.2 ⟨t, ht, Or.inl rfl⟩)) (h _ (mem_nextL.2 ⟨t, ht, Or.inr rfl⟩))
theorem free_down (T : Nat → Nat → Bool) (n : Nat) (V : Nat → Int) {v : Int} (h : ∀ t, t ∈ lvl T n V 0 → hangs v t = false) : ∀ k u, u ∈ lvl T n V k → hangs v u = false
  | 0, u, hu => h u hu
  | k + 1, u, hu => by
    obtain ⟨t, ht, e⟩ := mem_nextL.1 hu
    have := free_down T n V h k t ht
    rcases e with rfl | rfl <;> exact hangs_keep _ this
section
variable (F : Nat → Bool) {V : Nat → Int} (hV : IsOrder V)
abbrev One1 (F : Nat → Bool) : Nat → Nat → Bool := fun _ => F
theorem first_one (u : Nat) : u ∈ lvl (One1 F) 1 V 0 ↔ u = code F := by
  show u ∈ firstL _ 1 ↔ _
  rw [mem_firstL]
  constructor
  · rintro ⟨i, _, e⟩; exact e
  · intro e; exact ⟨0, by decide, e⟩
theorem cnt_ge (hV : IsOrder V) : ∀ k, k ≤ 8 → (List.range k).countP (fun i => hangs (V i) (code F)) ≤ cntUpto (One1 F) 1 V k
  | 0, _ => Nat.le_refl _
  | k + 1, hk => by
    have ih := cnt_ge hV k (by omega)
    rw [List.range_succ, List.countP_append, cntUpto, List.countP_singleton]
    by_cases h : hangs (V k) (code F) = true
    · rw [if_pos h]
      have hpos : 0 < (lvl (One1 F) 1 V k).countP (hangs (V k)) := by
        rw [List.countP_pos_iff]
        apply Classical.byContradiction
        intro hno
        have hall : ∀ u, u ∈ lvl (One1 F) 1 V k → hangs (V k) u = false := fun u hu => by
          cases hh : hangs (V k) u with
          | false => rfl
          | true => exact absurd ⟨u, hu, hh⟩ hno
        have := free_up (One1 F) 1 V hV (hV.range k (by omega)) k (by omega) (fun i hi e => by have := hV.inj i k (by omega) (by omega) e; omega) hall (code F) ((first_one F _).2 rfl)
        rw [this] at h
        cases h
      omega
    · rw [if_neg h]
      omega
theorem cnt_zero (h : ∀ i, i < 8 → hangs (V i) (code F) = false) : ∀ k, k ≤ 8 → cntUpto (One1 F) 1 V k = 0
  | 0, _ => rfl
  | k + 1, hk => by
    rw [cntUpto, cnt_zero h k (by omega), Nat.zero_add, List.countP_eq_zero]
    intro u hu
    rw [free_down (One1 F) 1 V (v := V k) (fun t ht => by rw [first_one] at ht; rw [ht]; exact h k (by omega)) k u hu]
    simp
theorem range_perm (hV : IsOrder V) (p : Nat → Bool) : (List.range 8).countP (fun i => p (V i).toNat) = (List.range 8).countP p := by
  have h1 : (List.range 8).countP (fun i => p (V i).toNat) = ((List.range 8).map fun i => (V i).toNat).countP p := by rw [List.countP_map]; rfl
  rw [h1]
  refine List.Perm.countP_eq p ((List.perm_ext_iff_of_nodup (nodup_map _ List.nodup_range fun i hi j hj e => ?_) List.nodup_range).2 fun v => ?_)
  · have hi := List.mem_range.1 hi
    have hj := List.mem_range.1 hj
    have r1 := hV.range i hi
    have r2 := hV.range j hj
    exact hV.inj i j hi hj (by omega)
  · rw [List.mem_map, List.mem_range]
    constructor
    · rintro ⟨i, hi, rfl⟩
      have := hV.range i (List.mem_range.1 hi)
      omega
    · intro hv
      obtain ⟨i, hi, e⟩ := hV.all v hv
      exact ⟨i, List.mem_range.2 hi, by omega⟩
end

/-! ### The lowest two levels -/
def bn (u x : Nat) : Nat := if u.testBit x then 1 else 0
theorem bn_eq {u t x y : Nat} (h : bn u x = bn t y) : u.testBit x = t.testBit y := by
  unfold bn at h
  cases h1 : u.testBit x <;> cases h2 : t.testBit y <;> simp_all
theorem bn_le (u x : Nat) : bn u x ≤ 1 := by unfold bn; split <;> decide
section
variable (T : Nat → Nat → Bool) (n : Nat) {V : Nat → Int}
theorem low_indep (hV : IsOrder V) {k u : Nat} (hk : k ≤ 8) (hu : u ∈ lvl T n V k) {v : Nat} (hv : v < 8) (hne : ∀ i, k ≤ i → i < 8 → (V i).toNat ≠ v) : Indep u v := by
  obtain ⟨i, hi, e⟩ := hV.all v hv
  have hik : i < k := by
    rcases Nat.lt_or_ge i k with q | q
    · exact q
    · exact absurd (by omega) (hne i q hi)
  have := lvl_indep T n hV hk hu i hik
  rwa [e] at this
theorem low7 (hV : IsOrder V) {u x : Nat} (hu : u ∈ lvl T n V 7) (hx : x < 256) : u.testBit x = u.testBit (fixAt (V 7).toNat (M (V 7).toNat x) 0) := by
  have h7 := hV.range 7 (by decide)
  have h78 : (V 7).toNat < 8 := by omega
  refine indep_agree hx (fixAt_lt _ _ _ h78 (by decide)) fun v hv => ?_
  by_cases e : v = (V 7).toNat
  · right
    rw [e, M_fixAt _ _ _ _ h78 h78 (by decide), if_pos rfl]
  · left
    refine low_indep T n hV (by decide) hu hv fun i hi hi8 q => e ?_
    obtain rfl : i = 7 := by omega
    exact q.symm
theorem low6 (hV : IsOrder V) {u x : Nat} (hu : u ∈ lvl T n V 6) (hx : x < 256) : u.testBit x = u.testBit (fixAt (V 7).toNat (M (V 7).toNat x) (fixAt (V 6).toNat (M (V 6).toNat x) 0)) := by
  have h7 := hV.range 7 (by decide)
  have h6 := hV.range 6 (by decide)
  have h78 : (V 7).toNat < 8 := by omega
  have h68 : (V 6).toNat < 8 := by omega
  have h67 : (V 6).toNat ≠ (V 7).toNat := fun e => by
    have := hV.inj 6 7 (by decide) (by decide) (by omega)
    cases this
  have l6 := fixAt_lt (V 6).toNat 0 (M (V 6).toNat x) h68 (by decide)
  refine indep_agree hx (fixAt_lt _ _ _ h78 l6) fun v hv => ?_
  by_cases e : v = (V 7).toNat
  · right
    rw [e, M_fixAt _ _ _ _ h78 h78 l6, if_pos rfl]
  · by_cases e6 : v = (V 6).toNat
    · right
      rw [e6, M_fixAt _ _ _ _ h68 h78 l6, if_neg h67, M_fixAt _ _ _ _ h68 h68 (by decide), if_pos rfl]
    · left
      refine low_indep T n hV (by decide) hu hv fun i hi hi8 q => ?_
      have : i = 6 ∨ i = 7 := by omega
      rcases this with rfl | rfl
      · exact e6 q.symm
      · exact e q.symm
theorem cnt7 (hV : IsOrder V) : (lvl T n V 7).countP (hangs (V 7)) ≤ 2 := by
  have h7 := hV.range 7 (by decide)
  have h78 : (V 7).toNat < 8 := by omega
  rw [List.countP_eq_length_filter]
  refine inj_len (p := fun u => bn u (fixAt (V 7).toNat false 0) + 2 * bn u (fixAt (V 7).toNat true 0)) (s := [1, 2]) ((nodup_lvl T n V 7).filter _) (fun u hu t ht e => ?_) (fun u hu => ?_)
  · rw [List.mem_filter] at hu ht
    have b1 := bn_le u (fixAt (V 7).toNat false 0)
    have b2 := bn_le u (fixAt (V 7).toNat true 0)
    have b3 := bn_le t (fixAt (V 7).toNat false 0)
    have b4 := bn_le t (fixAt (V 7).toNat true 0)
    have e1 : bn u (fixAt (V 7).toNat false 0) = bn t (fixAt (V 7).toNat false 0) := by omega
    have e2 : bn u (fixAt (V 7).toNat true 0) = bn t (fixAt (V 7).toNat true 0) := by omega
    refine top_ext (lvl_lt T n V 7 u hu.1) (lvl_lt T n V 7 t ht.1) fun x hx => ?_
    rw [low7 T n hV hu.1 hx, low7 T n hV ht.1 hx]
    cases M (V 7).toNat x with
    | false => exact bn_eq e1
    | true => exact bn_eq e2
  · rw [List.mem_filter] at hu
    have b1 := bn_le u (fixAt (V 7).toNat false 0)
    have b2 := bn_le u (fixAt (V 7).toNat true 0)
    have hne : bn u (fixAt (V 7).toNat false 0) ≠ bn u (fixAt (V 7).toNat true 0) := fun e => by
      have hi : hangs (V 7) u = false := (hangs_iff h7 u).2 fun x hx b => by
        rw [low7 T n hV hu.1 (fixAt_lt _ _ _ h78 hx), low7 T n hV hu.1 hx]
        have q := bn_eq e
        cases M (V 7).toNat (fixAt (V 7).toNat b x) <;> cases M (V 7).toNat x <;> first | rfl | exact q | exact q.symm
      rw [hi] at hu
      cases hu.2
    simp only [List.mem_cons, List.not_mem_nil, or_false]
    omega
def pt (V : Nat → Int) (b c : Bool) : Nat := fixAt (V 7).toNat c (fixAt (V 6).toNat b 0)
theorem cnt6 (hV : IsOrder V) : (lvl T n V 6).countP (hangs (V 6)) ≤ 12 := by
  have h7 := hV.range 7 (by decide)
  have h6 := hV.range 6 (by decide)
  have h78 : (V 7).toNat < 8 := by omega
  have h68 : (V 6).toNat < 8 := by omega
  have h67 : (V 7).toNat ≠ (V 6).toNat := fun e => by
    have := hV.inj 6 7 (by decide) (by decide) (by omega)
    cases this
  rw [List.countP_eq_length_filter]
  have hs : ((List.range 16).filter fun q => decide (q % 2 ≠ q / 2 % 2) || decide (q / 4 % 2 ≠ q / 8 % 2)).length = 12 := by decide
  rw [← hs]
  refine inj_len (p := fun u => bn u (pt V false false) + 2 * bn u (pt V true false) + 4 * bn u (pt V false true) + 8 * bn u (pt V true true)) ((nodup_lvl T n V 6).filter _) (fun u hu t ht e => ?_) (fun u hu => ?_)
  · rw [List.mem_filter] at hu ht
    have a1 := bn_le u (pt V false false)
    have a2 := bn_le u (pt V true false)
    have a3 := bn_le u (pt V false true)
    have a4 := bn_le u (pt V true true)
    have b1 := bn_le t (pt V false false)
    have b2 := bn_le t (pt V true false)
    have b3 := bn_le t (pt V false true)
    have b4 := bn_le t (pt V true true)
    have e4 : bn u (pt V true true) = bn t (pt V true true) := by omega
    have e3 : bn u (pt V false true) = bn t (pt V false true) := by omega
    have e2 : bn u (pt V true false) = bn t (pt V true false) := by omega
    have e1 : bn u (pt V false false) = bn t (pt V false false) := by omega
    refine top_ext (lvl_lt T n V 6 u hu.1) (lvl_lt T n V 6 t ht.1) fun x hx => ?_
    rw [low6 T n hV hu.1 hx, low6 T n hV ht.1 hx]
    cases M (V 7).toNat x <;> cases M (V 6).toNat x
    · exact bn_eq e1
    · exact bn_eq e2
    · exact bn_eq e3
    · exact bn_eq e4
  · rw [List.mem_filter] at hu
    have a1 := bn_le u (pt V false false)
    have a2 := bn_le u (pt V true false)
    have a3 := bn_le u (pt V false true)
    have a4 := bn_le u (pt V true true)
    have hne : ¬ (bn u (pt V false false) = bn u (pt V true false) ∧ bn u (pt V false true) = bn u (pt V true true)) := fun ⟨e1, e2⟩ => by
      have hi : hangs (V 6) u = false := (hangs_iff h6 u).2 fun x hx b => by
        rw [low6 T n hV hu.1 (fixAt_lt _ _ _ h68 hx), low6 T n hV hu.1 hx, M_fixAt (V 7).toNat (V 6).toNat x b h78 h68 hx, if_neg h67]
        have q1 := bn_eq e1
        have q2 := bn_eq e2
        unfold pt at q1 q2
        cases M (V 7).toNat x <;> cases M (V 6).toNat (fixAt (V 6).toNat b x) <;> cases M (V 6).toNat x <;> first | rfl | exact q1 | exact q1.symm | exact q2 | exact q2.symm
      rw [hi] at hu
      cases hu.2
    generalize bn u (pt V false false) = a at *
    generalize bn u (pt V true false) = b at *
    generalize bn u (pt V false true) = c at *
    generalize bn u (pt V true true) = d at *
    have ha : a = 0 ∨ a = 1 := by omega
    have hb : b = 0 ∨ b = 1 := by omega
    have hc : c = 0 ∨ c = 1 := by omega
    have hd : d = 0 ∨ d = 1 := by omega
    clear hu h6 h7 h68 h78 h67 hs a1 a2 a3 a4
    rcases ha with rfl | rfl <;> rcases hb with rfl | rfl <;> rcases hc with rfl | rfl <;> rcases hd with rfl | rfl <;> first | decide | exact absurd ⟨rfl, rfl⟩ hne
end
theorem cnt_77 (F : Nat → Bool) {V : Nat → Int} (hV : IsOrder V) : cntUpto (One1 F) 1 V 8 ≤ 77 := by
  have h : ∀ k, (lvl (One1 F) 1 V k).countP (hangs (V k)) ≤ 2 ^ k := fun k => by
    have := lvl_le (One1 F) 1 V k
    have := List.countP_le_length (p := hangs (V k)) (l := lvl (One1 F) 1 V k)
    omega
  have h0 := h 0
  have h1 := h 1
  have h2 := h 2
  have h3 := h 3
  have h4 := h 4
  have h5 := h 5
  have h6 := cnt6 (One1 F) 1 hV
  have h7 := cnt7 (One1 F) 1 hV
  simp only [cntUpto]
  omega

/-- How many variables it hangs on. -/
def hangN (F : Nat → Bool) (k : Nat) : Nat := (List.range k).countP fun v : Nat => hangs (v : Int) (code F)
theorem sizes_ok (F G : Nat → Bool) {V : Nat → Int} (hV : IsOrder V) (T3 : Nat → Nat → Bool) (t0 : T3 0 = F) (t1 : T3 1 = G) (t2 : T3 2 = F) :
    sizeN (One1 fun x => !F x) 1 V 8 = sizeN (One1 F) 1 V 8 ∧ hangN F 8 ≤ sizeN (One1 F) 1 V 8 ∧ sizeN (One1 F) 1 V 8 ≤ 77 ∧ sizeN T3 3 V 8 ≤ sizeN (One1 F) 1 V 8 + sizeN (One1 G) 1 V 8 ∧ sizeN (One1 F) 1 V 8 ≤ sizeN T3 3 V 8 ∧ sizeN (One1 G) 1 V 8 ≤ sizeN T3 3 V 8 ∧ (hangN F 8 = 0 → sizeN (One1 F) 1 V 8 = 0) := by
  have hp : (List.range 8).countP (fun i => hangs (V i) (code F)) = hangN F 8 := by
    rw [hangN, ← range_perm hV (fun v : Nat => hangs (v : Int) (code F))]
    apply List.countP_congr
    intro i hi
    have := to_nat i (List.mem_range.1 hi) hV
    rw [this]
  have m3 : ∀ u, u ∈ firstL T3 3 ↔ u = code F ∨ u = code G := fun u => by
    rw [mem_firstL]
    constructor
    · rintro ⟨i, hi, rfl⟩
      have : i = 0 ∨ i = 1 ∨ i = 2 := by omega
      rcases this with rfl | rfl | rfl
      · exact Or.inl (by rw [t0])
      · exact Or.inr (by rw [t1])
      · exact Or.inl (by rw [t2])
    · rintro (rfl | rfl)
      · exact ⟨0, by decide, by rw [t0]⟩
      · exact ⟨1, by decide, by rw [t1]⟩
  have mF : ∀ u, u ∈ firstL (One1 F) 1 ↔ u = code F := fun u => first_one (V := V) F u
  have mG : ∀ u, u ∈ firstL (One1 G) 1 ↔ u = code G := fun u => first_one (V := V) G u
  rw [size_cnt _ _ hV, size_cnt _ _ hV, size_cnt _ _ hV, size_cnt _ _ hV]
  refine ⟨cnt_not (One1 F) 1 V 8, ?_, cnt_77 F hV, ?_, ?_, ?_, ?_⟩
  · rw [← hp]; exact cnt_ge F hV 8 (Nat.le_refl _)
  · exact cnt_or (One1 F) (One1 G) T3 1 1 3 V (fun u hu => by rw [mF, mG]; exact (m3 u).1 hu) 8
  · exact cnt_sub (One1 F) T3 1 3 V (fun u hu => (m3 u).2 (Or.inl ((mF u).1 hu))) 8
  · exact cnt_sub (One1 G) T3 1 3 V (fun u hu => (m3 u).2 (Or.inr ((mG u).1 hu))) 8
  · intro h0
    refine cnt_zero F (fun i hi => ?_) 8 (Nat.le_refl _)
    rw [← hp, List.countP_eq_zero] at h0
    have := h0 i (List.mem_range.2 hi)
    simpa using this
end Go.Proofs.YtmfocngdobcfcabDoor
