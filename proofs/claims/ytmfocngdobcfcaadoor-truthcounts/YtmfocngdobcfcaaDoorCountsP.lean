/-
  The reference's parts are the program's: as many.
-/
import Derived.Test.YtmfocngdobcfcaaDoorPartsW
import Derived.Test.YtmfocngdobcfcaaDoorLvl
namespace Go.Proofs.YtmfocngdobcfcaaDoor
open Go Go.RowKit

theorem has_iff (T : Nat → Nat → Bool) (F : Nat → Bool) : ∀ n, hasUpto T F n = true ↔ ∃ i, i < n ∧ code (T i) = code F
  | 0 => by simp [hasUpto]
  | n + 1 => by
    rw [hasUpto, Bool.or_eq_true, has_iff T F n, same_code, decide_eq_true_eq]
    constructor
    · rintro (⟨i, h, e⟩ | e)
      · exact ⟨i, by omega, e⟩
      · exact ⟨n, by omega, e⟩
    · rintro ⟨i, h, e⟩
      by_cases q : i = n
      · subst q; exact Or.inr e
      · exact Or.inl ⟨i, by omega, e⟩
theorem has_code (ts : List (Nat → Bool)) (F : Nat → Bool) : hasUpto (fun i => ts.getD i fun _ => false) F ts.length = true ↔ code F ∈ ts.map code := by
  rw [has_iff, List.mem_map]
  constructor
  · rintro ⟨i, hi, e⟩
    have : ts.getD i (fun _ => false) = ts[i] := by simp [List.getD, List.getElem?_eq_getElem hi]
    rw [this] at e
    exact ⟨ts[i], List.getElem_mem hi, e⟩
  · rintro ⟨G, hG, e⟩
    obtain ⟨i, hi, rfl⟩ := List.getElem_of_mem hG
    refine ⟨i, hi, ?_⟩
    have : ts.getD i (fun _ => false) = ts[i] := by simp [List.getD, List.getElem?_eq_getElem hi]
    rw [this, e]
theorem addN_code (ts : List (Nat → Bool)) (F : Nat → Bool) : (addN ts F).map code = ins (ts.map code) (code F) := by
  unfold addN ins
  by_cases h : code F ∈ ts.map code
  · rw [if_pos ((has_code ts F).2 h), if_pos h]
  · have h' : ¬ hasUpto (fun i => ts.getD i fun _ => false) F ts.length = true := fun q => h ((has_code ts F).1 q)
    rw [if_neg h', if_neg h]
    simp
theorem dedup_code (T : Nat → Nat → Bool) : ∀ k, (dedup T k).map code = firstL T k
  | 0 => rfl
  | k + 1 => by rw [dedup, addN_code, dedup_code T k, firstL]
theorem fix_code (F : Nat → Bool) (v : Int) (b : Bool) : code (fixI F v b) = fixC (code F) v b := by
  rw [fixC]
  refine code_eq.2 fun x hx => ?_
  unfold fixI
  by_cases hv : 0 ≤ v ∧ v < 8
  · rw [if_pos hv, if_pos hv]
    show F (fixAt v.toNat b x) = (code F).testBit (fixAt v.toNat b x)
    rw [code_bit _ _ (fixAt_lt _ _ _ (by omega) hx)]
  · rw [if_neg hv, if_neg hv, code_bit _ _ hx]
theorem isC_code (F : Nat → Bool) : isC F = !ncB (code F) := by
  unfold isC ncB c0 c1
  rw [same_code, same_code]
  by_cases h1 : code F = code fun _ => false
  · simp [h1]
  · by_cases h2 : code F = code fun _ => true <;> simp [h1, h2]
theorem allStep_code (a : List (Nat → Bool)) (F : Nat → Bool) : (allStep a F).map code = addA (a.map code) (code F) := by
  unfold allStep addA
  rw [isC_code]
  cases h : ncB (code F) with
  | true => simp [addN_code]
  | false => simp
theorem getD_take {ts : List (Nat → Bool)} {i : Nat} (hi : i < ts.length) : (ts.map code).take (i + 1) = (ts.map code).take i ++ [code (ts.getD i fun _ => false)] := by
  rw [List.take_succ_eq_append_getElem (by simpa using hi)]
  simp [List.getD, List.getElem?_eq_getElem hi]
theorem lvA_code (a0 ts : List (Nat → Bool)) : ∀ i, i ≤ ts.length → (lvA a0 ts i).map code = ((ts.map code).take i).foldl addA (a0.map code)
  | 0, _ => by simp [lvA]
  | i + 1, hi => by rw [lvA, allStep_code, lvA_code a0 ts i (by omega), getD_take (by omega), List.foldl_append]; rfl
theorem lvX_code (v : Int) (ts : List (Nat → Bool)) : ∀ i, i ≤ ts.length → (lvX false v ts i).map code = ((ts.map code).take i).foldl (ins2 v) []
  | 0, _ => by simp [lvX]
  | i + 1, hi => by
    rw [lvX, getD_take (by omega), List.foldl_append, ← lvX_code v ts i (by omega)]
    unfold nextStep
    simp only [Bool.false_eq_true, if_false]
    rw [addN_code, addN_code, fix_code, fix_code]
    rfl
theorem prt_code (T : Nat → Nat → Bool) (L : Nat) (V : Nat → Int) (n : Nat) : ∀ k, k ≤ min n 8 → ((prt V n (dedup T L) k).1.map code = allC T L V k ∧ (prt V n (dedup T L) k).2.map code = lvl T L V k)
  | 0, _ => ⟨rfl, dedup_code T L⟩
  | k + 1, hk => by
    have ih := prt_code T L V n k (by omega)
    have hlast : (decide (k = n) || decide (k = 8)) = false := by
      have h1 : ¬ k = n := by omega
      have h2 : ¬ k = 8 := by omega
      simp [h1, h2]
    simp only [prt, hlast]
    refine ⟨?_, ?_⟩
    · rw [lvA_code _ _ _ (Nat.le_refl _), List.take_of_length_le (by simp), ih.1, ih.2, allC]
    · rw [lvX_code _ _ _ (Nat.le_refl _), List.take_of_length_le (by simp), ih.2]
      rfl
theorem prt_size (T : Nat → Nat → Bool) (L : Nat) (V : Nat → Int) (n : Nat) : (prt V n (dedup T L) (min n 8 + 1)).1.length = sizeN T L V (min n 8) := by
  have ih := prt_code T L V n (min n 8) (Nat.le_refl _)
  have h : (prt V n (dedup T L) (min n 8 + 1)).1.map code = allC T L V (min n 8 + 1) := by
    simp only [prt]
    rw [lvA_code _ _ _ (Nat.le_refl _), List.take_of_length_le (by simp), ih.1, ih.2, allC]
  rw [← size_all, ← h, List.length_map]

theorem size_any (adl adv : Option Addr) (L capl n capv : Nat) (T : Nat → Nat → Bool) (V : Nat → Int) (w : World) (hL : L ≤ 1000) (hn : n ≤ 1000) (hl : TabsAt w adl L T) (hv : IntsAt w adv n V) :
    Calls Tryd.prog 47 #[.slice adl L capl, .slice adv n capv] w fun e w' => e = .returned (.int .i64 (sizeN T L V (min n 8) : Int)) ∧ Below w.heap.size w w' := by
  go_enter Tryd.func47, Tryd.ntmps47
  go_wp2_with (first
    | (go_at_call 54; refine (parts_any adl L capl T adv n capv V _ hL (by omega) hl hv).mono ?_; rintro e w6 ⟨⟨ad, cap, rfl, ho⟩, b6⟩))
  go_ret
  exact ⟨by rw [prt_size]; rfl, b6⟩

/-- The least assignment, if there is one. -/
def OneIs (F : Nat → Bool) (x : Nat) (b : Bool) : Prop := (b = true ∧ x < 256 ∧ F x = true ∧ ∀ y, y < x → F y = false) ∨ (b = false ∧ x = 0 ∧ ∀ y, y < 256 → F y = false)
theorem OneIs.one {F : Nat → Bool} {x y : Nat} {b c : Bool} (h : OneIs F x b) (g : OneIs F y c) : x = y ∧ b = c := by
  rcases h with ⟨rfl, hx, h1, h2⟩ | ⟨rfl, rfl, h1⟩ <;> rcases g with ⟨rfl, hy, g1, g2⟩ | ⟨rfl, rfl, g1⟩
  · refine ⟨?_, rfl⟩
    rcases Nat.lt_trichotomy x y with q | q | q
    · have := g2 x q; rw [h1] at this; cases this
    · exact q
    · have := h2 y q; rw [g1] at this; cases this
  · have := g1 x hx; rw [h1] at this; cases this
  · have := h1 y hy; rw [g1] at this; cases this
  · exact ⟨rfl, rfl⟩
theorem pone_is (F : Nat → Bool) (w : World) (hG : Grp w) :
    Calls Tryd.prog 40 #[tab F] w fun e w' => (∃ (x : Nat) (b : Bool), OneIs F x b ∧ e = .returned (.tuple #[.int .u8 (x : Int), .bool b])) ∧ Below w.heap.size w w' := by
  refine (pone_any F w hG).mono ?_
  rintro e w' ⟨⟨x, hx, h1, h2, rfl⟩ | ⟨h, rfl⟩, b⟩
  · exact ⟨⟨x, true, Or.inl ⟨rfl, hx, h1, h2⟩, rfl⟩, b⟩
  · exact ⟨⟨0, false, Or.inr ⟨rfl, rfl, h⟩, rfl⟩, b⟩
theorem one_is (F : Nat → Bool) (w : World) :
    Calls Tryd.prog 41 #[tab F] w fun e w' => (∃ (x : Nat) (b : Bool), OneIs F x b ∧ e = .returned (.tuple #[.int .u8 (x : Int), .bool b])) ∧ Below w.heap.size w w' := by
  refine (one_any F w).mono ?_
  rintro e w' ⟨⟨x, hx, h1, h2, rfl⟩ | ⟨h, rfl⟩, b⟩
  · exact ⟨⟨x, true, Or.inl ⟨rfl, hx, h1, h2⟩, rfl⟩, b⟩
  · exact ⟨⟨0, false, Or.inr ⟨rfl, rfl, h⟩, rfl⟩, b⟩
end Go.Proofs.YtmfocngdobcfcaaDoor
