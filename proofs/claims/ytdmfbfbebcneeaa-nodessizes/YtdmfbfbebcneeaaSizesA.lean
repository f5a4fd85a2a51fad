/-
  The reference's Trim and Size.
-/
import Derived.Test.YtdmfbfbebcneeaaFuncW
import Derived.Test.YtdmfbfbebcneeaaRfPartsW
import Derived.Test.YtdmfbfbebcneeaaLink
namespace Go.Proofs.Ytdmfbfbebcneeaa
open Go Go.RowKit
open Rf (tab word same IsTab TabsAt fixF fixAt prt dedup IntsAt results_tab laid_tab laid_turned)

/-- So many variables fixed to false, from n on. -/
def trimF (F : Nat → Bool) (n : Nat) : Nat → Nat → Bool
  | 0 => F
  | j + 1 => fixF (trimF F n j) (n + j) false
theorem trim_eq (F : Nat → Bool) (n : Nat) : ∀ j, n + j ≤ 8 → ∀ x y, x < 256 → y < 256 → (∀ i, i < 8 → (i < n ∨ n + j ≤ i) → x.testBit i = y.testBit i) → trimF F n j x = trimF F n j y
  | 0, _, x, y, hx, hy, h => by
    have e : x = y := Nat.eq_of_testBit_eq fun i => by
      by_cases hi : i < 8
      · exact h i hi (by omega)
      · have p : 256 ≤ 2 ^ i := Nat.pow_le_pow_right (n := 2) (by omega) (show 8 ≤ i by omega)
        rw [Nat.testBit_lt_two_pow (Nat.lt_of_lt_of_le hx p), Nat.testBit_lt_two_pow (Nat.lt_of_lt_of_le hy p)]
    rw [e]
  | j + 1, hj, x, y, hx, hy, h => by
    have hv : n + j < 8 := by omega
    obtain ⟨x1, x2⟩ := fixAt_bits hx hv false
    obtain ⟨y1, y2⟩ := fixAt_bits hy hv false
    refine trim_eq F n j (by omega) _ _ x1 y1 fun i hi q => ?_
    rw [x2, y2]
    unfold Mdl.setA
    split
    · rfl
    · exact h i hi (by omega)
theorem Dep.trim {M : Mdl} (o : M.Ok) (F : Nat → Bool) (onto : ∀ i, i < M.n → M.v i = i) : Dep M 0 (trimF F M.n (8 - M.n)) := fun x y hx hy e => by
  have n8 := o.le8
  refine trim_eq F M.n (8 - M.n) (by omega) x y hx hy fun i hi q => ?_
  have hin : i < M.n := by omega
  have := e i (Nat.zero_le _) hin
  rwa [onto i hin] at this

set_option maxHeartbeats 1000000 in
theorem trim_any (F : Nat → Bool) (n : Nat) (hn : n ≤ 8) (w : World) :
    Calls Try.prog 23 #[tab F, .int .i64 (n : Int)] w fun e w' => e = .returned (tab (trimF F n (8 - n))) ∧ Below w.heap.size w w' := by
  have hmx : max (n : Int) 0 = (n : Int) := by omega
  conv in #[tab F, Value.int .i64 (n : Int)] => unfold tab
  go_enter Try.func23, Try.ntmps23
  go_wp2_with fail
  go_loopg [5] (8 - n) (fun g s5 wr => ∃ j : Nat, j + g = 8 - n ∧ s5 = .int .i64 ((n + j : Nat) : Int) ∧ IsTab wr w.heap.size (trimF F n j) ∧ IsTab wr (w.heap.size + 1) (fun _ => false) ∧ Below w.heap.size w wr)
  case atStart => exact ⟨0, by omega, by simp, (IsTab.new w F).alloc _, IsTab.zeroAt (by simp), ((Below.refl _ w).alloc (Nat.le_refl _) _).alloc (by simp) _⟩
  case round =>
    obtain ⟨j, hj, rfl, hT, hZ, hB⟩ := hrel
    have hJ : Aside (j + gk = 8 - n) := hj
    have hj8 : n + j ≤ 8 := by omega
    clear hj
    obtain ⟨v, hv⟩ : ∃ v, n + j = v := ⟨_, rfl⟩
    have hvA : Aside (n + j = v) := hv
    rw [hv] at hj8 ⊢
    obtain ⟨c0, c1, c2, c3⟩ := hT.copy
    by_cases hlt : v < 8
    · have hlt' : (v : Int) < 8 := by omega
      have KF := Rf.fix_any (trimF F n j) v hlt false
      have eN : Aside (trimF F n (j + 1) = fixF (trimF F n j) v false) := by show fixF (trimF F n j) (n + j) false = _; rw [hv]
      clear hv
      unfold tab at KF
      go_wp2_with (first
        | (go_at_call 42; refine (KF _).mono ?_; clear KF; rintro e w5 ⟨rfl, b5⟩; have T5 := kept hT b5; have Z5 := kept hZ b5; have y0 := T5.cell (k := 0) (by decide); have y1 := T5.cell (k := 1) (by decide); have y2 := T5.cell (k := 2) (by decide); have y3 := T5.cell (k := 3) (by decide); have z0 := T5.free 0; have z1 := T5.free 1; have z2 := T5.free 2; have z3 := T5.free 3))
      go_roundg (gk - 1)
      case measure => have := hJ.out; have := hvA.out; omega
      case rel =>
        have := hJ.out
        have hv := hvA.out
        have B5 := Rf.below_far hB b5
        refine ⟨j + 1, by omega, ?_, by rw [eN.out]; exact laid_tab T5 _, (laid_turned w5 w.heap.size _).tab Z5 (by omega), B5.trans ((laid_turned _ _ _).below B5.size (Nat.le_refl _))⟩
        rw [← hv]
        go_num
    · obtain rfl : v = 8 := by omega
      obtain rfl : j = 8 - n := by have := hJ.out; omega
      clear hv hJ
      have y0 := hZ.cell (k := 0) (by decide)
      have y1 := hZ.cell (k := 1) (by decide)
      have y2 := hZ.cell (k := 2) (by decide)
      have y3 := hZ.cell (k := 3) (by decide)
      have z0 := hZ.free 0
      have z1 := hZ.free 1
      have z2 := hZ.free 2
      have z3 := hZ.free 3
      go_wp2_with fail
      exact bodyPost_ret (results_tab rfl rfl (laid_tab hZ _)) rfl ⟨rfl, hB.trans ((laid_turned _ _ _).below hB.size (Nat.le_succ _))⟩
theorem size_any (adl : Option Addr) (L capl : Nat) (T : Nat → Nat → Bool) (adv : Option Addr) (n capv : Nat) (V : Nat → Int) (w : World) (hL : L ≤ 1000) (hn : n ≤ 8) (hl : TabsAt w adl L T) (hv : IntsAt w adv n V) :
    Calls Try.prog 25 #[.slice adl L capl, .slice adv n capv] w fun e w' => e = .returned (.int .i64 ((prt V n (dedup T L) (min n 8 + 1)).1.length : Int)) ∧ Below w.heap.size w w' := by
  have K := Rf.parts_any adl L capl T adv n capv V w hL (by omega) hl hv
  obtain ⟨ps, hps⟩ : ∃ ps, (prt V n (dedup T L) (min n 8 + 1)).1 = ps := ⟨_, rfl⟩
  rw [hps] at K ⊢
  clear hps
  go_enter Try.func25, Try.ntmps25
  go_wp2_with (first
    | (go_at_call 44; refine K.mono ?_; clear K; rintro e w5 ⟨⟨ad, cap, rfl, o5⟩, b5⟩))
  go_ret
  exact ⟨rfl, b5⟩
theorem subs_congr {M : Mdl} (o : M.Ok) {F F' G : Nat → Bool} (dF : Dep M 0 F) (dF' : Dep M 0 F') (e : Eqt F F') (h : Subs M.v M.n 0 F G) : Subs M.v M.n 0 F' G := by
  obtain ⟨j, hj, d, c⟩ := (subs_desc o M.n 0 F G (by omega) dF).1 h
  exact (subs_desc o M.n 0 F' G (by omega) dF').2 ⟨j, hj, desc_from (fun i hi => by have := o.vlt (0 + i) (by omega); have := o.le8; omega) d e, c⟩
theorem dedup_one (T : Nat → Nat → Bool) : dedup T 1 = [T 0] := by
  show Rf.addN [] (T 0) = [T 0]
  rw [Rf.addN_new rfl]
  rfl
end Go.Proofs.Ytdmfbfbebcneeaa
