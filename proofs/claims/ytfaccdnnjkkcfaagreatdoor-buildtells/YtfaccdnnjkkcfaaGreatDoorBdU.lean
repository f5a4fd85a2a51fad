/-
  The reference's paths, without a program: they are the node's.
-/
import Derived.Test.YtfaccdnnjkkcfaaGreatDoorBdQ
namespace Go.Proofs.YtfaccdnnjkkcfaaGreatDoor
open Go Go.RowKit
open Rf (fixAt fixF tab word same countUpto)

/-- The reference's paths of a function, from level k on, so many levels. -/
def cubesR (v : Nat → Nat) : Nat → Nat → (Nat → Bool) → List (Nat × Nat)
  | 0, _, F => if same F c0 = true then [] else [(0, 0)]
  | j + 1, k, F =>
    if same F c0 = true then [] else if same F c1 = true then [(0, 0)]
    else if same (fixF F (v k) false) (fixF F (v k) true) = true then cubesR v j (k + 1) F
    else (cubesR v j (k + 1) (fixF F (v k) false)).map (fun p => (p.1 ||| 2 ^ v k, p.2)) ++ (cubesR v j (k + 1) (fixF F (v k) true)).map fun p => (p.1 ||| 2 ^ v k, p.2 ||| 2 ^ v k)
theorem cubesR_le (v : Nat → Nat) : ∀ (j k : Nat) (F : Nat → Bool), (cubesR v j k F).length ≤ 2 ^ j
  | 0, k, F => by
    rw [cubesR]
    split <;> simp
  | j + 1, k, F => by
    have p : 1 ≤ 2 ^ (j + 1) := Nat.pow_pos (by omega)
    have e : 2 ^ (j + 1) = 2 ^ j + 2 ^ j := by rw [Nat.pow_succ]; omega
    rw [cubesR]
    split
    · exact Nat.zero_le _
    · split
      · exact p
      · split
        · exact Nat.le_trans (cubesR_le v j (k + 1) F) (by omega)
        · rw [List.length_append, List.length_map, List.length_map]
          have h1 := cubesR_le v j (k + 1) (fixF F (v k) false)
          have h2 := cubesR_le v j (k + 1) (fixF F (v k) true)
          omega
theorem cubesR_lt (v : Nat → Nat) (hv : ∀ k, v k < 8) : ∀ (j k : Nat) (F : Nat → Bool), ∀ p ∈ cubesR v j k F, p.1 < 256 ∧ p.2 < 256
  | 0, k, F, p, hp => by
    rw [cubesR] at hp
    split at hp
    · cases hp
    · rw [List.mem_singleton] at hp; subst hp; exact ⟨by decide, by decide⟩
  | j + 1, k, F, p, hp => by
    have hP : 2 ^ v k < 2 ^ 8 := Nat.pow_lt_pow_right (by omega) (hv k)
    rw [cubesR] at hp
    split at hp
    · cases hp
    · split at hp
      · rw [List.mem_singleton] at hp; subst hp; exact ⟨by decide, by decide⟩
      · split at hp
        · exact cubesR_lt v hv j (k + 1) F p hp
        · rcases List.mem_append.1 hp with hp | hp
          · obtain ⟨r, hr, rfl⟩ := List.mem_map.1 hp
            obtain ⟨a, b⟩ := cubesR_lt v hv j (k + 1) _ r hr
            exact ⟨Nat.or_lt_two_pow (n := 8) a hP, b⟩
          · obtain ⟨r, hr, rfl⟩ := List.mem_map.1 hp
            obtain ⟨a, b⟩ := cubesR_lt v hv j (k + 1) _ r hr
            exact ⟨Nat.or_lt_two_pow (n := 8) a hP, Nat.or_lt_two_pow (n := 8) b hP⟩
section
variable {M : Mdl}
theorem cubesR_paths (o : M.Ok) : ∀ (j k : Nat), k + j = M.n → ∀ {d x : Nat} {F : Nat → Bool}, M.isNode x → M.n - M.lev x ≤ d → k ≤ M.lev x → Eqt (M.tbl x) F → ∀ m q, pathsN M d x m q = (cubesR M.v j k F).map fun p => (p.1 ||| m, p.2 ||| q) := by
  have one : ∀ m q : Nat, [((m, q) : Nat × Nat)] = [((0, 0) : Nat × Nat)].map fun p => (p.1 ||| m, p.2 ||| q) := fun m q => by
    show _ = [((0 ||| m, 0 ||| q) : Nat × Nat)]
    rw [Nat.zero_or, Nat.zero_or]
  have isz : ∀ {x : Nat} {F : Nat → Bool}, M.isNode x → Eqt (M.tbl x) F → same F c0 = true → x = 0 := fun xn e s => (Mdl.one_iff o xn (.inl (by omega))).1 (e.trans (Eqt.trans ((Rf.same_iff _ _).1 s) (tbl_zero M).symm))
  have iso : ∀ {x : Nat} {F : Nat → Bool}, M.isNode x → Eqt (M.tbl x) F → same F c1 = true → x = 1 := fun xn e s => (Mdl.one_iff o xn (.inl (by omega))).1 (e.trans (Eqt.trans ((Rf.same_iff _ _).1 s) (tbl_one M).symm))
  intro j
  induction j with
  | zero =>
    intro k hk d x F xn hd hl e m q
    rw [cubesR]
    by_cases s : same F c0 = true
    · rw [if_pos s, isz xn e s, pathsN_zero]; rfl
    · rw [if_neg s]
      have x2 := const_of o xn (by omega)
      rcases two_of x2 with rfl | rfl
      · exact absurd (same_true (e.symm.trans (tbl_zero M))) s
      · rw [pathsN_one]; exact one m q
  | succ j ih =>
    intro k hk d x F xn hd hl e m q
    rw [cubesR]
    by_cases s : same F c0 = true
    · rw [if_pos s, isz xn e s, pathsN_zero]; rfl
    · rw [if_neg s]
      by_cases s1 : same F c1 = true
      · rw [if_pos s1, iso xn e s1, pathsN_one]; exact one m q
      · rw [if_neg s1]
        have h2 : ¬ x < 2 := fun h2 => by
          rcases two_of h2 with rfl | rfl
          · exact s (same_true (e.symm.trans (tbl_zero M)))
          · exact s1 (same_true (e.symm.trans (tbl_one M)))
        have xm : x ∈ M.hs := xn.resolve_left h2
        have ln := o.lv x xm
        have lx := Mdl.lev_in o xm
        have hv := v8 o (show k < M.n by omega)
        have ef : ∀ b, Eqt (fixF (M.tbl x) (M.v k) b) (fixF F (M.v k) b) := fun b => fix_congr hv e b
        by_cases c : k < M.lev x
        · have sm : Eqt (fixF F (M.v k) false) (fixF F (M.v k) true) := (ef false).symm.trans ((tbl_fix o xn c (by omega) false).trans ((tbl_fix o xn c (by omega) true).symm.trans (ef true)))
          rw [if_pos (same_true sm)]
          exact ih (k + 1) (by omega) xn hd (by omega) e m q
        · have ek : k = (M.nd x).1 := by omega
          have e0 : Eqt (M.tbl (M.nd x).2.1) (fixF F (M.v k) false) := by rw [ek]; rw [ek] at ef; exact (tbl_lo o xm).trans (ef false)
          have e1 : Eqt (M.tbl (M.nd x).2.2) (fixF F (M.v k) true) := by rw [ek]; rw [ek] at ef; exact (tbl_hi o xm).trans (ef true)
          have ns : ¬ same (fixF F (M.v k) false) (fixF F (M.v k) true) = true := fun h => o.ne x xm ((Mdl.one_iff o (o.lo x xm).1 (o.hi x xm).1).1 (e0.trans (Eqt.trans ((Rf.same_iff _ _).1 h) e1.symm)))
          rw [if_neg ns]
          cases d with
          | zero => omega
          | succ d =>
            obtain ⟨d1, d2⟩ := low_inner o xm hd
            have l1 := (o.lo x xm).2
            have l2 := (o.hi x xm).2
            rw [pathsN_in _ _ _ _ _ h2, ← ek, ih (k + 1) (by omega) (o.lo x xm).1 d1 (by omega) e0, ih (k + 1) (by omega) (o.hi x xm).1 d2 (by omega) e1, List.map_append, List.map_map, List.map_map]
            have ac : ∀ a b P : Nat, a ||| (b ||| P) = (a ||| P) ||| b := fun a b P => by rw [Nat.or_assoc, Nat.or_comm P b]
            congr 1
            · refine List.map_congr_left fun p _ => ?_
              show (p.1 ||| (m ||| 2 ^ M.v k), p.2 ||| q) = ((p.1 ||| 2 ^ M.v k) ||| m, p.2 ||| q)
              rw [ac]
            · refine List.map_congr_left fun p _ => ?_
              show (p.1 ||| (m ||| 2 ^ M.v k), p.2 ||| (q ||| 2 ^ M.v k)) = ((p.1 ||| 2 ^ M.v k) ||| m, (p.2 ||| 2 ^ M.v k) ||| q)
              rw [ac, ac]
theorem cubesR_all (o : M.Ok) {x : Nat} {F : Nat → Bool} (xn : M.isNode x) (e : Eqt (M.tbl x) F) : pathsL M x = cubesR M.v M.n 0 F := by
  unfold pathsL
  rw [cubesR_paths o M.n 0 (by omega) xn (by omega) (Nat.zero_le _) e 0 0]
  simp
end
end Go.Proofs.YtfaccdnnjkkcfaaGreatDoor
