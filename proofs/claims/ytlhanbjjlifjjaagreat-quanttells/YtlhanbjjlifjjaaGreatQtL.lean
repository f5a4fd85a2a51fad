/-
  Laws of exists, forall, restrict, without a program.
-/
import Derived.Test.YtlhanbjjlifjjaaGreatQtP
import Derived.Test.YtlhanbjjlifjjaaGreatLgc
namespace Go.Proofs.YtlhanbjjlifjjaaGreat
open Rf (fixAt fixF)

theorem ex_ex (a b : Nat) (F : Nat → Bool) : Eqt (exQ b (exQ a F)) (exQ (a ||| b) F) := fun x hx => by
  rw [Bool.eq_iff_iff, exQ_iff, exQ_iff]
  constructor
  · rintro ⟨y, hy, g, f⟩
    obtain ⟨z, hz, g', f'⟩ := (exQ_iff _ _ _).1 f
    refine ⟨z, hz, fun j hj h => ?_, f'⟩
    rw [Nat.testBit_or, Bool.or_eq_false_iff] at h
    exact (g j hj h.2).trans (g' j hj h.1)
  · rintro ⟨z, hz, g, f⟩
    refine ⟨mixA b z x, mix_lt hz hx, fun j _ h => ?_, (exQ_iff _ _ _).2 ⟨z, hz, fun j hj h => ?_, f⟩⟩
    · rw [mix_bit, h]
      rfl
    · rw [mix_bit]
      cases c : b.testBit j with
      | true => rfl
      | false => exact g j hj (by rw [Nat.testBit_or, h, c]; rfl)
theorem all_all (a b : Nat) (F : Nat → Bool) : Eqt (allQ a (allQ b F)) (allQ (a ||| b) F) := fun x hx => by
  show (!_) = (!_)
  rw [(ex_is a).congr (fun y => !allQ b F y) (exQ b (fun y => !F y)) (fun y _ => Bool.not_not _) x hx, ex_ex b a _ x hx, Nat.or_comm]
theorem ex_none (F : Nat → Bool) : Eqt (exQ 0 F) F := (ex_is 0).idle F fun x y hx hy h => by rw [num_same hx hy fun j hj => h j hj (Nat.zero_testBit j)]
theorem res_none (n : Nat) (hn : n < 256) (F : Nat → Bool) : Eqt (resQ 0 n F) F := (res_is 0 n hn).idle F fun x y hx hy h => by rw [num_same hx hy fun j hj => h j hj (Nat.zero_testBit j)]
theorem dual_ex (m : Nat) (F : Nat → Bool) : Eqt (fN (exQ m (fN F))) (allQ m F) := fun _ _ => rfl
theorem pow_lt8 {v : Nat} (hv : v < 8) : 2 ^ v < 256 := Nat.pow_lt_pow_right (a := 2) (n := 8) (by decide) hv
theorem mix_one {v n x : Nat} (hv : v < 8) (hn : n < 256) (hx : x < 256) : mixA (2 ^ v) n x = fixAt v (n.testBit v) x :=
  num_same (mix_lt hn hx) (fix_lt hx hv _) fun j _ => by
    rw [mix_bit, fix_bit hx hv, Nat.testBit_two_pow]
    by_cases c : v = j
    · rw [if_pos (decide_eq_true c), if_pos c.symm, c]
    · rw [if_neg (by simpa using c), if_neg fun e => c e.symm]
theorem bit255 {v : Nat} (hv : v < 8) : (255 : Nat).testBit v = true := by
  have h : v = 0 ∨ v = 1 ∨ v = 2 ∨ v = 3 ∨ v = 4 ∨ v = 5 ∨ v = 6 ∨ v = 7 := by omega
  rcases h with rfl | rfl | rfl | rfl | rfl | rfl | rfl | rfl <;> rfl
theorem res_low {v : Nat} (hv : v < 8) (F : Nat → Bool) : Eqt (resQ (2 ^ v) 0 F) (fixF F v false) := fun x hx => by
  show F _ = F _
  rw [mix_one hv (by omega) hx, Nat.zero_testBit]
theorem res_high {v : Nat} (hv : v < 8) (F : Nat → Bool) : Eqt (resQ (2 ^ v) 255 F) (fixF F v true) := fun x hx => by
  show F _ = F _
  rw [mix_one hv (by omega) hx, bit255 hv]
theorem fix_free {v : Nat} (hv : v < 8) (F : Nat → Bool) (b : Bool) : ∀ x y, x < 256 → y < 256 → Agr (2 ^ v) x y → fixF F v b x = fixF F v b y := fun x y hx hy h => by
  show F _ = F _
  refine congrArg F (num_same (fix_lt hx hv b) (fix_lt hy hv b) fun j hj => ?_)
  rw [fix_bit hx hv, fix_bit hy hv]
  by_cases c : j = v
  · rw [if_pos c, if_pos c]
  · rw [if_neg c, if_neg c]
    exact h j hj (by rw [Nat.testBit_two_pow]; exact decide_eq_false fun e => c e.symm)
theorem pow_self (v : Nat) : (2 ^ v).testBit v = true := by rw [Nat.testBit_two_pow]; exact decide_eq_true rfl
theorem ex_one {v : Nat} (hv : v < 8) (F : Nat → Bool) : Eqt (fO (resQ (2 ^ v) 0 F) (resQ (2 ^ v) 255 F)) (exQ (2 ^ v) F) := fun x hx => by
  have i := ex_is (2 ^ v)
  rw [i.taken F v hv (pow_self v) x hx]
  show (_ || _) = (_ || _)
  rw [res_low hv F x hx, res_high hv F x hx, i.idle _ (fix_free hv F false) x hx, i.idle _ (fix_free hv F true) x hx]
theorem all_one {v : Nat} (hv : v < 8) (F : Nat → Bool) : Eqt (fA (resQ (2 ^ v) 0 F) (resQ (2 ^ v) 255 F)) (allQ (2 ^ v) F) := fun x hx => by
  have i := all_is (2 ^ v)
  rw [i.taken F v hv (pow_self v) x hx]
  show (_ && _) = (_ && _)
  rw [res_low hv F x hx, res_high hv F x hx, i.idle _ (fix_free hv F false) x hx, i.idle _ (fix_free hv F true) x hx]
theorem ex_or (m : Nat) (F G : Nat → Bool) : Eqt (fO (exQ m F) (exQ m G)) (exQ m (fO F G)) := fun x _ => by
  show (_ || _) = _
  rw [Bool.eq_iff_iff, Bool.or_eq_true, exQ_iff, exQ_iff, exQ_iff]
  unfold fO
  constructor
  · rintro (⟨y, a, b, c⟩ | ⟨y, a, b, c⟩)
    · exact ⟨y, a, b, by rw [c]; rfl⟩
    · exact ⟨y, a, b, by rw [c, Bool.or_true]⟩
  · rintro ⟨y, a, b, c⟩
    rcases (Bool.or_eq_true _ _).mp c with c | c
    · exact .inl ⟨y, a, b, c⟩
    · exact .inr ⟨y, a, b, c⟩
theorem all_and (m : Nat) (F G : Nat → Bool) : Eqt (fA (allQ m F) (allQ m G)) (allQ m (fA F G)) := fun x hx => by
  show ((!_) && (!_)) = (!_)
  rw [← Bool.not_or]
  refine congrArg _ ?_
  rw [show (exQ m (fun y => !F y) x || exQ m (fun y => !G y) x) = _ from ex_or m (fun y => !F y) (fun y => !G y) x hx]
  refine (ex_is m).congr _ _ (fun y _ => ?_) x hx
  unfold fO fA
  rw [Bool.not_and]
theorem ex_and (m : Nat) (F G : Nat → Bool) : Eqt (fA (exQ m (fA F G)) (fA (exQ m F) (exQ m G))) (exQ m (fA F G)) := fun x _ => by
  show (_ && (_ && _)) = _
  rw [Bool.eq_iff_iff, Bool.and_eq_true, Bool.and_eq_true, exQ_iff, exQ_iff, exQ_iff]
  constructor
  · exact fun h => h.1
  · rintro ⟨y, a, b, c⟩
    have c' := (Bool.and_eq_true _ _).mp c
    exact ⟨⟨y, a, b, c⟩, ⟨y, a, b, c'.1⟩, y, a, b, c'.2⟩
theorem ex_up (m : Nat) (F : Nat → Bool) : Eqt (fO F (exQ m F)) (exQ m F) := fun x hx => by
  show (_ || _) = _
  rw [Bool.eq_iff_iff, Bool.or_eq_true, exQ_iff]
  exact ⟨fun h => h.elim (fun h => ⟨x, hx, Agr.refl m x, h⟩) id, .inr⟩
theorem all_down (m : Nat) (F : Nat → Bool) : Eqt (fA F (allQ m F)) (allQ m F) := fun x hx => by
  show (_ && (!_)) = (!_)
  have h := ex_up m (fun y => !F y) x hx
  unfold fO at h
  cases c : F x with
  | true => rfl
  | false =>
    have h' : ((!F x) || exQ m (fun y => !F y) x) = exQ m (fun y => !F y) x := h
    rw [c] at h'
    rw [← h']
    rfl
theorem ite_halves {v : Nat} (hv : v < 8) (F : Nat → Bool) : Eqt (fI (Rf.M v) (resQ (2 ^ v) 255 F) (resQ (2 ^ v) 0 F)) F := fun x hx => by
  have s := fixAt_same hx hv
  show (if _ then _ else _) = _
  rw [res_low hv F x hx, res_high hv F x hx, M_bit']
  cases c : x.testBit v with
  | true => rw [c] at s; rw [if_pos rfl]; show F _ = F _; rw [s]
  | false => rw [c] at s; rw [if_neg (by decide)]; show F _ = F _; rw [s]
theorem res_all {n : Nat} (hn : n < 256) (F : Nat → Bool) : Eqt (resQ 255 n F) (fun _ => F n) := fun x hx => by
  show F _ = F _
  rw [show mixA 255 n x = n from num_same (mix_lt hn hx) hn fun j hj => by rw [mix_bit, bit255 hj]; rfl]
theorem agr255 (x y : Nat) : Agr 255 x y := fun j hj h => by rw [bit255 hj] at h; cases h
theorem ex_all (F : Nat → Bool) : Eqt (exQ 255 F) c0 ∨ Eqt (exQ 255 F) c1 := by
  by_cases h : ∃ y, y < 256 ∧ F y = true
  · obtain ⟨y, hy, f⟩ := h
    exact .inr fun x _ => (exQ_iff _ _ _).2 ⟨y, hy, agr255 x y, f⟩
  · refine .inl fun x _ => ?_
    show _ = false
    rw [Bool.eq_false_iff]
    exact fun e => by
      obtain ⟨y, hy, _, f⟩ := (exQ_iff _ _ _).1 e
      exact h ⟨y, hy, f⟩
theorem ex_one_iff (F : Nat → Bool) : Eqt (exQ 255 F) c1 ↔ ¬ Eqt F c0 := by
  constructor
  · intro h e
    obtain ⟨y, hy, _, f⟩ := (exQ_iff _ _ _).1 (h 0 (by omega))
    rw [e y hy] at f
    cases f
  · intro h
    refine (ex_all F).resolve_left fun e => h fun y hy => ?_
    show _ = false
    rw [Bool.eq_false_iff]
    intro f
    have := (exQ_iff 255 F 0).2 ⟨y, hy, agr255 0 y, f⟩
    rw [e 0 (by omega)] at this
    cases this
theorem all_one_iff (F : Nat → Bool) : Eqt (allQ 255 F) c1 ↔ Eqt F c1 := by
  constructor
  · intro h y hy
    have h0 := h 0 (by omega)
    show F y = true
    cases c : F y with
    | true => rfl
    | false =>
      have : exQ 255 (fun y => !F y) 0 = true := (exQ_iff _ _ _).2 ⟨y, hy, agr255 0 y, by rw [c]; rfl⟩
      have h1 : (!exQ 255 (fun y => !F y) 0) = true := h0
      rw [this] at h1
      cases h1
  · intro h x _
    show (!_) = true
    rw [Bool.not_eq_true', Bool.eq_false_iff]
    intro e
    obtain ⟨y, hy, _, f⟩ := (exQ_iff _ _ _).1 e
    rw [h y hy] at f
    cases f
end Go.Proofs.YtlhanbjjlifjjaaGreat
