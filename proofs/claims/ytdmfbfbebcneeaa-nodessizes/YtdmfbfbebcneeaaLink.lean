/-
  As many nodes as the reference counts: the functions of a store's nodes are the unlike parts of what was made. No program is walked here.
-/
import Derived.Test.YtdmfbfbebcneeaaMadeS
import Derived.Test.YtdmfbfbebcneeaaRfParts
namespace Go.Proofs.Ytdmfbfbebcneeaa
open Rf (fixAt fixF fixI same hasUpto addN addN_skip addN_new dedup isC allStep nextStep lvA lvX prt)

def InT (ts : List (Nat → Bool)) (G : Nat → Bool) : Prop := ∃ F ∈ ts, Eqt F G
def PW (ts : List (Nat → Bool)) : Prop := ts.Pairwise fun F G => ¬ Eqt F G
def nth (ts : List (Nat → Bool)) (i : Nat) : Nat → Bool := ts.getD i fun _ => false
theorem nth_mem {ts : List (Nat → Bool)} {i : Nat} (h : i < ts.length) : nth ts i ∈ ts := by
  unfold nth
  rw [List.getD_eq_getElem?_getD, List.getElem?_eq_getElem h, Option.getD_some]
  exact List.getElem_mem h
theorem mem_nth {ts : List (Nat → Bool)} {F : Nat → Bool} (h : F ∈ ts) : ∃ i, i < ts.length ∧ nth ts i = F := by
  obtain ⟨i, hi, e⟩ := List.getElem_of_mem h
  refine ⟨i, hi, ?_⟩
  unfold nth
  rw [List.getD_eq_getElem?_getD, List.getElem?_eq_getElem hi, Option.getD_some, e]
theorem has_upto (T : Nat → Nat → Bool) (F : Nat → Bool) : ∀ n, hasUpto T F n = true ↔ ∃ i, i < n ∧ Eqt (T i) F
  | 0 => by simp [hasUpto]
  | n + 1 => by
    rw [hasUpto, Bool.or_eq_true, has_upto T F n, Rf.same_iff]
    constructor
    · rintro (⟨i, hi, e⟩ | e)
      · exact ⟨i, by omega, e⟩
      · exact ⟨n, by omega, e⟩
    · rintro ⟨i, hi, e⟩
      by_cases q : i = n
      · subst q; exact .inr e
      · exact .inl ⟨i, by omega, e⟩
theorem has_iff (ts : List (Nat → Bool)) (F : Nat → Bool) : hasUpto (fun i => ts.getD i fun _ => false) F ts.length = true ↔ InT ts F := by
  rw [has_upto]
  constructor
  · rintro ⟨i, hi, e⟩
    exact ⟨_, nth_mem hi, e⟩
  · rintro ⟨G, hG, e⟩
    obtain ⟨i, hi, rfl⟩ := mem_nth hG
    exact ⟨i, hi, e⟩
theorem in_addN (ts : List (Nat → Bool)) (F G : Nat → Bool) : InT (addN ts F) G ↔ InT ts G ∨ Eqt F G := by
  cases h : hasUpto (fun i => ts.getD i fun _ => false) F ts.length with
  | true =>
    rw [addN_skip h]
    obtain ⟨F', h1, h2⟩ := (has_iff ts F).1 h
    exact ⟨.inl, fun q => q.elim id fun e => ⟨F', h1, h2.trans e⟩⟩
  | false =>
    rw [addN_new h]
    constructor
    · rintro ⟨H, hH, e⟩
      rcases List.mem_append.1 hH with q | q
      · exact .inl ⟨H, q, e⟩
      · rw [List.mem_singleton] at q; subst q; exact .inr e
    · rintro (⟨H, hH, e⟩ | e)
      · exact ⟨H, List.mem_append.2 (.inl hH), e⟩
      · exact ⟨F, List.mem_append.2 (.inr (List.mem_singleton.2 rfl)), e⟩
theorem pw_addN {ts : List (Nat → Bool)} (h : PW ts) (F : Nat → Bool) : PW (addN ts F) := by
  cases q : hasUpto (fun i => ts.getD i fun _ => false) F ts.length with
  | true => rw [addN_skip q]; exact h
  | false =>
    rw [addN_new q]
    refine List.pairwise_append.2 ⟨h, by simp, fun a ha b hb e => ?_⟩
    rw [List.mem_singleton] at hb
    subst hb
    have := (has_iff ts b).2 ⟨a, ha, e⟩
    rw [q] at this
    cases this
theorem isC_iff (F : Nat → Bool) : isC F = true ↔ Cst F := by
  unfold isC Cst
  rw [Bool.or_eq_true, Rf.same_iff, Rf.same_iff]
  rfl
theorem cst_congr {F G : Nat → Bool} (e : Eqt F G) : Cst F ↔ Cst G := by
  constructor
  · rintro (h | h)
    · exact .inl (e.symm.trans h)
    · exact .inr (e.symm.trans h)
  · rintro (h | h)
    · exact .inl (e.trans h)
    · exact .inr (e.trans h)
theorem in_lvA (a0 ts : List (Nat → Bool)) (G : Nat → Bool) : ∀ i, InT (lvA a0 ts i) G ↔ InT a0 G ∨ ∃ j, j < i ∧ ¬ Cst (nth ts j) ∧ Eqt (nth ts j) G
  | 0 => by
    constructor
    · exact .inl
    · rintro (h | ⟨j, hj, _⟩)
      · exact h
      · omega
  | i + 1 => by
    have ih := in_lvA a0 ts G i
    have e : lvA a0 ts (i + 1) = allStep (lvA a0 ts i) (nth ts i) := rfl
    rw [e, allStep]
    cases c : isC (nth ts i) with
    | true =>
      have hc := (isC_iff _).1 c
      rw [if_pos rfl, ih]
      constructor
      · rintro (h | ⟨j, hj, q⟩)
        · exact .inl h
        · exact .inr ⟨j, by omega, q⟩
      · rintro (h | ⟨j, hj, q1, q2⟩)
        · exact .inl h
        · by_cases d : j = i
          · subst d; exact absurd hc q1
          · exact .inr ⟨j, by omega, q1, q2⟩
    | false =>
      have hc : ¬ Cst (nth ts i) := fun q => by rw [(isC_iff _).2 q] at c; cases c
      rw [if_neg (by simp), in_addN, ih]
      constructor
      · rintro ((h | ⟨j, hj, q⟩) | q)
        · exact .inl h
        · exact .inr ⟨j, by omega, q⟩
        · exact .inr ⟨i, by omega, hc, q⟩
      · rintro (h | ⟨j, hj, q1, q2⟩)
        · exact .inl (.inl h)
        · by_cases d : j = i
          · subst d; exact .inr q2
          · exact .inl (.inr ⟨j, by omega, q1, q2⟩)
theorem pw_lvA {a0 : List (Nat → Bool)} (h : PW a0) (ts : List (Nat → Bool)) : ∀ i, PW (lvA a0 ts i)
  | 0 => h
  | i + 1 => by
    have ih := pw_lvA h ts i
    rw [lvA, allStep]
    split
    · exact ih
    · exact pw_addN ih _
theorem in_lvX (v : Int) (ts : List (Nat → Bool)) (G : Nat → Bool) : ∀ i, InT (lvX false v ts i) G ↔ ∃ j, j < i ∧ (Eqt (fixI (nth ts j) v false) G ∨ Eqt (fixI (nth ts j) v true) G)
  | 0 => by
    constructor
    · rintro ⟨F, h, _⟩; cases h
    · rintro ⟨j, hj, _⟩; omega
  | i + 1 => by
    have ih := in_lvX v ts G i
    have e : lvX false v ts (i + 1) = addN (addN (lvX false v ts i) (fixI (nth ts i) v false)) (fixI (nth ts i) v true) := rfl
    rw [e, in_addN, in_addN, ih]
    constructor
    · rintro ((⟨j, hj, q⟩ | q) | q)
      · exact ⟨j, by omega, q⟩
      · exact ⟨i, by omega, .inl q⟩
      · exact ⟨i, by omega, .inr q⟩
    · rintro ⟨j, hj, q⟩
      by_cases d : j = i
      · subst d
        exact q.elim (fun q => .inl (.inr q)) .inr
      · exact .inl (.inl ⟨j, by omega, q⟩)
theorem fixF_congr {F G : Nat → Bool} (e : Eqt F G) {v : Nat} (hv : v < 8) (b : Bool) : Eqt (fixF F v b) (fixF G v b) := fun _ hx => e _ (fixAt_bits hx hv b).1
theorem fixI_congr {F G : Nat → Bool} (e : Eqt F G) (v : Int) (b : Bool) : Eqt (fixI F v b) (fixI G v b) := by
  unfold fixI
  split
  · exact fixF_congr e (by omega) b
  · exact e
theorem fixI_nat (F : Nat → Bool) {v : Nat} (hv : v < 8) (b : Bool) : fixI F (v : Int) b = fixF F v b := by
  unfold fixI
  rw [if_pos (by omega)]
  rfl
/-- The functions of a level. -/
def Lv (V : Nat → Int) (ts0 : List (Nat → Bool)) : Nat → (Nat → Bool) → Prop
  | 0, G => InT ts0 G
  | k + 1, G => ∃ H, Lv V ts0 k H ∧ (Eqt (fixI H (V k) false) G ∨ Eqt (fixI H (V k) true) G)
theorem lv_prt (V : Nat → Int) (n : Nat) (ts0 : List (Nat → Bool)) : ∀ k, k ≤ n → k ≤ 8 → ∀ G, InT (prt V n ts0 k).2 G ↔ Lv V ts0 k G
  | 0, _, _, G => Iff.rfl
  | k + 1, h1, h2, G => by
    have ih := lv_prt V n ts0 k (by omega) (by omega)
    have e : (prt V n ts0 (k + 1)).2 = lvX false (V k) (prt V n ts0 k).2 (prt V n ts0 k).2.length := by
      rw [prt]
      have : (decide (k = n) || decide (k = 8)) = false := by
        rw [decide_eq_false (by omega), decide_eq_false (by omega)]
        rfl
      rw [this]
    rw [e, in_lvX]
    constructor
    · rintro ⟨j, hj, q⟩
      exact ⟨_, (ih _).1 ⟨_, nth_mem hj, Eqt.refl _⟩, q⟩
    · rintro ⟨H, hH, q⟩
      obtain ⟨F, hF, eF⟩ := (ih H).2 hH
      obtain ⟨j, hj, rfl⟩ := mem_nth hF
      exact ⟨j, hj, q.imp (fun q => (fixI_congr eF _ _).trans q) fun q => (fixI_congr eF _ _).trans q⟩
theorem in_prt (V : Nat → Int) (n : Nat) (ts0 : List (Nat → Bool)) : ∀ k, k ≤ n + 1 → k ≤ 9 → ∀ G, InT (prt V n ts0 k).1 G ↔ ∃ j, j < k ∧ Lv V ts0 j G ∧ ¬ Cst G
  | 0, _, _, G => by
    constructor
    · rintro ⟨F, h, _⟩; cases h
    · rintro ⟨j, hj, _⟩; omega
  | k + 1, h1, h2, G => by
    have ih := in_prt V n ts0 k (by omega) (by omega) G
    have lv := lv_prt V n ts0 k (by omega) (by omega) G
    have e : (prt V n ts0 (k + 1)).1 = lvA (prt V n ts0 k).1 (prt V n ts0 k).2 (prt V n ts0 k).2.length := rfl
    rw [e, in_lvA, ih]
    constructor
    · rintro (⟨j, hj, q⟩ | ⟨j, hj, q1, q2⟩)
      · exact ⟨j, by omega, q⟩
      · exact ⟨k, by omega, lv.1 ⟨_, nth_mem hj, q2⟩, fun c => q1 ((cst_congr q2).2 c)⟩
    · rintro ⟨j, hj, q1, q2⟩
      by_cases d : j = k
      · subst d
        obtain ⟨F, hF, eF⟩ := lv.2 q1
        obtain ⟨i, hi, rfl⟩ := mem_nth hF
        exact .inr ⟨i, hi, fun c => q2 ((cst_congr eF).1 c), eF⟩
      · exact .inl ⟨j, by omega, q1, q2⟩
theorem pw_prt (V : Nat → Int) (n : Nat) (ts0 : List (Nat → Bool)) : ∀ k, PW (prt V n ts0 k).1
  | 0 => List.Pairwise.nil
  | k + 1 => pw_lvA (pw_prt V n ts0 k) _ _

/-- What a function becomes when so many variables are fixed, from level k on. -/
def Desc (v : Nat → Nat) : Nat → Nat → (Nat → Bool) → (Nat → Bool) → Prop
  | 0, _, F, G => Eqt F G
  | j + 1, k, F, G => Desc v j (k + 1) (fixF F (v k) false) G ∨ Desc v j (k + 1) (fixF F (v k) true) G
theorem desc_to {v : Nat → Nat} : ∀ {j k : Nat} {F G G' : Nat → Bool}, Desc v j k F G → Eqt G G' → Desc v j k F G'
  | 0, _, _, _, _, h, e => h.trans e
  | _ + 1, _, _, _, _, h, e => h.imp (fun h => desc_to h e) fun h => desc_to h e
theorem desc_from {v : Nat → Nat} : ∀ {j k : Nat} {F F' G : Nat → Bool}, (∀ i, i < j → v (k + i) < 8) → Desc v j k F G → Eqt F F' → Desc v j k F' G
  | 0, _, _, _, _, _, h, e => e.symm.trans h
  | j + 1, k, _, _, _, hv, h, e => by
    have h0 : v k < 8 := hv 0 (by omega)
    have h1 : ∀ i, i < j → v (k + 1 + i) < 8 := fun i hi => by have := hv (i + 1) (by omega); rwa [show k + 1 + i = k + (i + 1) by omega]
    exact h.imp (fun h => desc_from h1 h (fixF_congr e h0 false)) fun h => desc_from h1 h (fixF_congr e h0 true)
theorem cst_fix {F : Nat → Bool} (h : Cst F) {v : Nat} (hv : v < 8) (b : Bool) : Cst (fixF F v b) := h.imp (fun h => fixF_congr h hv b) fun h => fixF_congr h hv b
theorem desc_cst {v : Nat → Nat} : ∀ {j k : Nat} {F G : Nat → Bool}, (∀ i, i < j → v (k + i) < 8) → Cst F → Desc v j k F G → Cst G
  | 0, _, _, _, _, c, h => (cst_congr h).1 c
  | j + 1, k, _, _, hv, c, h => by
    have h0 : v k < 8 := hv 0 (by omega)
    have h1 : ∀ i, i < j → v (k + 1 + i) < 8 := fun i hi => by have := hv (i + 1) (by omega); rwa [show k + 1 + i = k + (i + 1) by omega]
    exact h.elim (fun h => desc_cst h1 (cst_fix c h0 false) h) fun h => desc_cst h1 (cst_fix c h0 true) h
/-- One variable more, at the end. -/
theorem desc_last {v : Nat → Nat} : ∀ {j k : Nat} {F G : Nat → Bool}, (∀ i, i < j + 1 → v (k + i) < 8) → (Desc v (j + 1) k F G ↔ ∃ H, Desc v j k F H ∧ (Eqt (fixF H (v (k + j)) false) G ∨ Eqt (fixF H (v (k + j)) true) G))
  | 0, k, F, G, hv => by
    have h0 : v k < 8 := hv 0 (by omega)
    constructor
    · intro h
      exact ⟨F, Eqt.refl F, h⟩
    · rintro ⟨H, hH, q⟩
      exact q.imp (fun q => (fixF_congr hH h0 false).trans q) fun q => (fixF_congr hH h0 true).trans q
  | j + 1, k, F, G, hv => by
    have h1 : ∀ i, i < j + 1 → v (k + 1 + i) < 8 := fun i hi => by have := hv (i + 1) (by omega); rwa [show k + 1 + i = k + (i + 1) by omega]
    have a := desc_last (j := j) (k := k + 1) (F := fixF F (v k) false) (G := G) h1
    have b := desc_last (j := j) (k := k + 1) (F := fixF F (v k) true) (G := G) h1
    rw [show k + 1 + j = k + (j + 1) by omega] at a b
    show (Desc v (j + 1) (k + 1) (fixF F (v k) false) G ∨ Desc v (j + 1) (k + 1) (fixF F (v k) true) G) ↔ _
    rw [a, b]
    constructor
    · rintro (⟨H, h, q⟩ | ⟨H, h, q⟩)
      · exact ⟨H, .inl h, q⟩
      · exact ⟨H, .inr h, q⟩
    · rintro ⟨H, h | h, q⟩
      · exact .inl ⟨H, h, q⟩
      · exact .inr ⟨H, h, q⟩
theorem subs_desc {M : Mdl} (o : M.Ok) : ∀ (d k : Nat) (F G : Nat → Bool), k + d = M.n → Dep M k F → (Subs M.v d k F G ↔ ∃ j, j ≤ d ∧ Desc M.v j k F G ∧ ¬ Cst G)
  | 0, k, F, G, hk, dep => by
    have c : Cst F := by
      rw [show k = M.n by omega] at dep
      have := dep.const
      cases q : F 0 with
      | false => rw [q] at this; exact .inl this
      | true => rw [q] at this; exact .inr this
    constructor
    · intro h; cases h
    · rintro ⟨j, hj, h, nc⟩
      obtain rfl : j = 0 := by omega
      exact absurd ((cst_congr h).1 c) nc
  | d + 1, k, F, G, hk, dep => by
    have hkn : k < M.n := by omega
    have v8 : ∀ i, i < M.n → M.v i < 8 := fun i hi => by have := o.vlt i hi; have := o.le8; omega
    have hv := v8 k hkn
    have ihX := subs_desc o d (k + 1) (fixF F (M.v k) false) G (by omega) (dep.fix o hkn false)
    have ihY := subs_desc o d (k + 1) (fixF F (M.v k) true) G (by omega) (dep.fix o hkn true)
    have vs : ∀ j, j ≤ d → ∀ i, i < j → M.v (k + 1 + i) < 8 := fun j hj i hi => v8 _ (by omega)
    show (¬ Cst F ∧ _) ↔ _
    rw [ihX, ihY]
    constructor
    · rintro ⟨nc, ⟨_, j, hj, h, q⟩ | ⟨_, e | ⟨j, hj, h, q⟩ | ⟨j, hj, h, q⟩⟩⟩
      · exact ⟨j + 1, by omega, .inl h, q⟩
      · exact ⟨0, by omega, e, fun c => nc ((cst_congr e).2 c)⟩
      · exact ⟨j + 1, by omega, .inl h, q⟩
      · exact ⟨j + 1, by omega, .inr h, q⟩
    · rintro ⟨j, hj, h, q⟩
      have nc : ¬ Cst F := fun c => q (desc_cst (fun i hi => v8 _ (by omega)) c h)
      refine ⟨nc, ?_⟩
      by_cases e : Eqt (fixF F (M.v k) false) (fixF F (M.v k) true)
      · refine .inl ⟨e, ?_⟩
        match j, h with
        | 0, h => exact ⟨0, by omega, (fix_same hv e).trans h, q⟩
        | j + 1, .inl h => exact ⟨j, by omega, h, q⟩
        | j + 1, .inr h => exact ⟨j, by omega, desc_from (vs j (by omega)) h e.symm, q⟩
      · refine .inr ⟨e, ?_⟩
        match j, h with
        | 0, h => exact .inl h
        | j + 1, .inl h => exact .inr (.inl ⟨j, by omega, h, q⟩)
        | j + 1, .inr h => exact .inr (.inr ⟨j, by omega, h, q⟩)
theorem lv_desc {M : Mdl} (o : M.Ok) (ts0 : List (Nat → Bool)) : ∀ (j : Nat), j ≤ M.n → ∀ G, Lv (fun i => (M.v i : Int)) ts0 j G ↔ ∃ F ∈ ts0, Desc M.v j 0 F G
  | 0, _, G => Iff.rfl
  | j + 1, hj, G => by
    have v8 : ∀ i, i < M.n → M.v i < 8 := fun i hi => by have := o.vlt i hi; have := o.le8; omega
    have ih := lv_desc o ts0 j (by omega)
    have hv : ∀ i, i < j + 1 → M.v (0 + i) < 8 := fun i hi => v8 _ (by omega)
    constructor
    · rintro ⟨H, hH, q⟩
      obtain ⟨F, hF, h⟩ := (ih H).1 hH
      refine ⟨F, hF, (desc_last hv).2 ⟨H, h, ?_⟩⟩
      rw [Nat.zero_add, ← fixI_nat H (v8 j (by omega)), ← fixI_nat H (v8 j (by omega))]
      exact q
    · rintro ⟨F, hF, h⟩
      obtain ⟨H, h1, q⟩ := (desc_last hv).1 h
      rw [Nat.zero_add, ← fixI_nat H (v8 j (by omega)), ← fixI_nat H (v8 j (by omega))] at q
      exact ⟨H, (ih H).2 ⟨F, hF, h1⟩, q⟩
def encT (F : Nat → Bool) : List Bool := (List.range 256).map F
theorem encT_iff (F G : Nat → Bool) : encT F = encT G ↔ Eqt F G := by
  unfold encT
  rw [List.map_inj_left]
  exact ⟨fun h x hx => h x (List.mem_range.2 hx), fun h x hx => h x (List.mem_range.1 hx)⟩
/-- As many nodes as unlike parts. -/
theorem parts_len {M : Mdl} (o : M.Ok) (ts0 : List (Nat → Bool)) (h : ∀ G, Has M G ↔ ∃ F ∈ ts0, Subs M.v M.n 0 F G) (dep : ∀ F ∈ ts0, Dep M 0 F) : (prt (fun i => (M.v i : Int)) M.n ts0 (min M.n 8 + 1)).1.length = M.hs.length := by
  have n8 := o.le8
  have e8 : min M.n 8 = M.n := by omega
  rw [e8]
  have key : ∀ G, InT (prt (fun i => (M.v i : Int)) M.n ts0 (M.n + 1)).1 G ↔ Has M G := fun G => by
    rw [in_prt _ _ _ (M.n + 1) (Nat.le_refl _) (by omega), h]
    constructor
    · rintro ⟨j, hj, h1, h2⟩
      obtain ⟨F, hF, d⟩ := (lv_desc o ts0 j (by omega) G).1 h1
      exact ⟨F, hF, (subs_desc o M.n 0 F G (by omega) (dep F hF)).2 ⟨j, by omega, d, h2⟩⟩
    · rintro ⟨F, hF, s⟩
      obtain ⟨j, hj, d, h2⟩ := (subs_desc o M.n 0 F G (by omega) (dep F hF)).1 s
      exact ⟨j, by omega, (lv_desc o ts0 j hj G).2 ⟨F, hF, d⟩, h2⟩
  have n1 : (M.hs.map fun x => encT (M.tbl x)).Nodup := nodup_map_on _ _ o.nodup fun x hx y hy e => (Mdl.one_iff o (.inr hx) (.inr hy)).1 ((encT_iff _ _).1 e)
  have n2 : ((prt (fun i => (M.v i : Int)) M.n ts0 (M.n + 1)).1.map encT).Nodup := by
    unfold List.Nodup
    rw [List.pairwise_map]
    exact (pw_prt _ _ _ _).imp fun q e => q ((encT_iff _ _).1 e)
  have l1 := nodup_le _ _ n1 fun x hx => by
    obtain ⟨y, hy, rfl⟩ := List.mem_map.1 hx
    obtain ⟨F, hF, e⟩ := (key (M.tbl y)).2 ⟨y, hy, Eqt.refl _⟩
    exact List.mem_map.2 ⟨F, hF, (encT_iff _ _).2 e⟩
  have l2 := nodup_le _ _ n2 fun x hx => by
    obtain ⟨F, hF, rfl⟩ := List.mem_map.1 hx
    obtain ⟨y, hy, e⟩ := (key F).1 ⟨F, hF, Eqt.refl _⟩
    exact List.mem_map.2 ⟨y, hy, (encT_iff _ _).2 e⟩
  rw [List.length_map, List.length_map] at l1 l2
  omega
end Go.Proofs.Ytdmfbfbebcneeaa
