/-
  Cubes without a program, for the statements: how often one is true; two of them together; a path is a cube.
-/
import Derived.Test.YtfaccdnnjkkcfaaGreatDoorBdW
import Derived.Test.YtfaccdnnjkkcfaaGreatDoorCtP
namespace Go.Proofs.YtfaccdnnjkkcfaaGreatDoor
open Go Go.RowKit
open Rf (fixAt fixF tab word same countUpto)

/-- How many of the first bits are set. -/
def onesN (m : Nat) : Nat → Nat
  | 0 => 0
  | n + 1 => onesN m n + if m.testBit n then 1 else 0
theorem onesN_le (m : Nat) : ∀ n, onesN m n ≤ n
  | 0 => Nat.le_refl _
  | n + 1 => by
    have := onesN_le m n
    rw [onesN]
    split <;> omega
theorem cubeV_hi (m q n x : Nat) : cubeV m q n (2 ^ n + x) = cubeV m q n x := by
  unfold cubeV
  rw [Bool.eq_iff_iff, List.all_eq_true, List.all_eq_true]
  have e : ∀ v, v ∈ List.range n → (2 ^ n + x).testBit v = x.testBit v := fun v hv => Nat.testBit_two_pow_add_gt (List.mem_range.1 hv) x
  exact ⟨fun h v hv => by have := h v hv; rwa [e v hv] at this, fun h v hv => by rw [e v hv]; exact h v hv⟩
theorem cubeV_cnt (m q : Nat) : ∀ n, countUpto (cubeV m q n) (2 ^ n) = 2 ^ (n - onesN m n)
  | 0 => by
    have : cubeV m q 0 = fun _ => true := rfl
    rw [this, cnt_const]; rfl
  | n + 1 => by
    have ih := cubeV_cnt m q n
    have le := onesN_le m n
    rw [cnt_two]
    have lo : ∀ x, x < 2 ^ n → cubeV m q (n + 1) x = (cubeV m q n x && (!m.testBit n || (false == q.testBit n))) := fun x hx => by
      rw [cubeV_succ, Nat.testBit_lt_two_pow hx]
    have hi : ∀ x, x < 2 ^ n → cubeV m q (n + 1) (2 ^ n + x) = (cubeV m q n x && (!m.testBit n || (true == q.testBit n))) := fun x hx => by
      rw [cubeV_succ, cubeV_hi, Nat.testBit_two_pow_add_eq, Nat.testBit_lt_two_pow hx]; rfl
    rw [cnt_congr _ lo, cnt_congr (F := fun x => cubeV m q (n + 1) (2 ^ n + x)) _ hi, onesN]
    have z : countUpto (fun x => cubeV m q n x && false) (2 ^ n) = 0 := by
      rw [show (fun x => cubeV m q n x && false) = fun _ => false from funext fun x => Bool.and_false _, cnt_const]; rfl
    have t : countUpto (fun x => cubeV m q n x && true) (2 ^ n) = 2 ^ (n - onesN m n) := by
      rw [show (fun x => cubeV m q n x && true) = cubeV m q n from funext fun x => Bool.and_true _]; exact ih
    cases c : m.testBit n with
    | false =>
      simp only [Bool.not_false, Bool.true_or, Bool.false_eq_true, if_false, Nat.add_zero]
      rw [t, show n + 1 - onesN m n = (n - onesN m n) + 1 by omega, Nat.pow_succ]; omega
    | true =>
      simp only [Bool.not_true, Bool.false_or, if_true]
      rw [show n + 1 - (onesN m n + 1) = n - onesN m n by omega]
      cases q.testBit n with
      | false => rw [show ((false == false) : Bool) = true from rfl, show ((true == false) : Bool) = false from rfl, t, z]; rfl
      | true => rw [show ((false == true) : Bool) = false from rfl, show ((true == true) : Bool) = true from rfl, t, z]; omega
theorem cube_cnt (m q N : Nat) (hN : N = 256) : countUpto (cubeF m q) N = 2 ^ (8 - onesN m 8) := by
  have : cubeF m q = cubeV m q 8 := rfl
  rw [this, hN]
  exact cubeV_cnt m q 8
/-- Two cubes that differ in a variable of both don't meet; else they are one of both. -/
theorem cube_meet {a b p q : Nat} (h : ((p ^^^ q) &&& a) &&& b = 0) : Eqt (fA (cubeF a p) (cubeF b q)) (cubeF (a ||| b) ((p &&& a) ||| (q &&& b))) := fun x _ => by
  have bit : ∀ v, a.testBit v = true → b.testBit v = true → p.testBit v = q.testBit v := fun v ha hb => by
    have := congrArg (fun n : Nat => n.testBit v) h
    simp only [Nat.testBit_and, Nat.testBit_xor, ha, hb, Nat.zero_testBit, Bool.and_true] at this
    simpa using this
  show (cubeF a p x && cubeF b q x) = _
  rw [Bool.eq_iff_iff, Bool.and_eq_true, cubeF_iff, cubeF_iff, cubeF_iff]
  constructor
  · rintro ⟨h1, h2⟩ v hv hm
    rw [Nat.testBit_or, Nat.testBit_and, Nat.testBit_and]
    rw [Nat.testBit_or] at hm
    cases ha : a.testBit v with
    | true =>
      rw [h1 v hv ha]
      cases hb : b.testBit v with
      | true => rw [bit v ha hb]; simp
      | false => simp
    | false =>
      rw [ha, Bool.false_or] at hm
      rw [h2 v hv hm, hm]; simp
  · intro h3
    refine ⟨fun v hv ha => ?_, fun v hv hb => ?_⟩
    · rw [h3 v hv (by rw [Nat.testBit_or, ha]; rfl), Nat.testBit_or, Nat.testBit_and, Nat.testBit_and, ha]
      cases hb : b.testBit v with
      | true => rw [bit v ha hb]; simp
      | false => simp
    · rw [h3 v hv (by rw [Nat.testBit_or, hb, Bool.or_true]), Nat.testBit_or, Nat.testBit_and, Nat.testBit_and, hb]
      cases ha : a.testBit v with
      | true => rw [bit v ha hb]; simp
      | false => simp
theorem cube_apart {a b p q : Nat} (ha8 : a < 256) (h : ((p ^^^ q) &&& a) &&& b ≠ 0) : Eqt (fA (cubeF a p) (cubeF b q)) c0 := fun x _ => by
  obtain ⟨v, hv⟩ : ∃ v, (((p ^^^ q) &&& a) &&& b).testBit v = true := by
    by_cases c : ∃ v, (((p ^^^ q) &&& a) &&& b).testBit v = true
    · exact c
    · refine absurd (Nat.eq_of_testBit_eq fun i => ?_) h
      rw [Nat.zero_testBit]
      cases e : (((p ^^^ q) &&& a) &&& b).testBit i with
      | true => exact absurd ⟨i, e⟩ c
      | false => rfl
  rw [Nat.testBit_and, Nat.testBit_and, Nat.testBit_xor, Bool.and_eq_true, Bool.and_eq_true] at hv
  obtain ⟨⟨hx, ha⟩, hb⟩ := hv
  have v8 : v < 8 := by
    by_cases c : v < 8
    · exact c
    · rw [Nat.testBit_lt_two_pow (Nat.lt_of_lt_of_le (show a < 2 ^ 8 from ha8) (Nat.pow_le_pow_right (by omega) (by omega)))] at ha; cases ha
  show (cubeF a p x && cubeF b q x) = false
  cases e1 : cubeF a p x with
  | false => rfl
  | true =>
    cases e2 : cubeF b q x with
    | false => rfl
    | true =>
      have g1 := cubeF_iff.1 e1 v v8 ha
      have g2 := cubeF_iff.1 e2 v v8 hb
      rw [← g1, ← g2] at hx
      simp at hx
theorem cube_some (a p : Nat) (hp : p < 256) : ¬ Eqt (cubeF a p) c0 := fun h => by
  have := h p hp
  rw [show cubeF a p p = true from cubeF_iff.2 fun _ _ _ => rfl] at this
  cases this
/-- A path is a cube. -/
theorem path_cube {p : Nat × Nat} (sub : ∀ i, p.2.testBit i = true → p.1.testBit i = true) (h1 : p.1 < 256) : Eqt (cubeF p.1 p.2) (fun y => onP y p) := fun y _ => by
  show _ = onP y p
  rw [Bool.eq_iff_iff, cubeF_iff, onP_iff]
  constructor
  · intro h i
    cases c : p.1.testBit i with
    | true =>
      have i8 : i < 8 := by
        by_cases c8 : i < 8
        · exact c8
        · rw [Nat.testBit_lt_two_pow (Nat.lt_of_lt_of_le (show p.1 < 2 ^ 8 from h1) (Nat.pow_le_pow_right (by omega) (by omega)))] at c; cases c
      rw [h i i8 c, Bool.and_true]
    | false =>
      rw [Bool.and_false]
      cases d : p.2.testBit i with
      | false => rfl
      | true => rw [sub i d] at c; cases c
  · intro h i _ hm
    have := h i
    rwa [hm, Bool.and_true] at this
/-- Its values lie in its mask. -/
theorem path_sub {a b : Nat} (sub : ∀ i, b.testBit i = true → a.testBit i = true) (ha : a < 256) : b &&& (255 - a) = 0 := Nat.eq_of_testBit_eq fun i => by
  rw [Nat.testBit_and, Nat.zero_testBit, show 255 - a = 2 ^ 8 - (a + 1) by omega, Nat.testBit_two_pow_sub_succ (show a < 2 ^ 8 from ha)]
  cases c : b.testBit i with
  | false => rfl
  | true => rw [sub i c]; simp
theorem hits_take (y : Nat) (ps : List (Nat × Nat)) (i : Nat) (hi : i < ps.length) : hits y (ps.take (i + 1)) = hits y (ps.take i) + if onP y (ps.getD i (0, 0)) = true then 1 else 0 := by
  have e : ps.take (i + 1) = ps.take i ++ [ps.getD i (0, 0)] := by
    rw [List.take_add_one, List.getElem?_eq_getElem hi, List.getD_eq_getElem?_getD, List.getElem?_eq_getElem hi]; rfl
  rw [e, hits_append]
  show _ + List.countP (onP y) [_] = _
  rw [List.countP_singleton]
theorem hits_le (y : Nat) (ps : List (Nat × Nat)) (i : Nat) : hits y (ps.take i) ≤ hits y ps := (List.take_sublist i ps).countP_le
theorem sum_take (ps : List (Nat × Nat)) (i : Nat) (hi : i < ps.length) (y : Nat) : sumP (ps.take (i + 1)) y = (sumP (ps.take i) y || onP y (ps.getD i (0, 0))) := by
  have e : ps.take (i + 1) = ps.take i ++ [ps.getD i (0, 0)] := by
    rw [List.take_add_one, List.getElem?_eq_getElem hi, List.getD_eq_getElem?_getD, List.getElem?_eq_getElem hi]; rfl
  unfold sumP
  rw [e, List.any_append, List.any_cons, List.any_nil, Bool.or_false]
theorem getDP_mem {ps : List (Nat × Nat)} {i : Nat} (hi : i < ps.length) : ps.getD i (0, 0) ∈ ps := by
  rw [List.getD_eq_getElem?_getD, List.getElem?_eq_getElem hi]
  exact List.getElem_mem hi
end Go.Proofs.YtfaccdnnjkkcfaaGreatDoor
