/-
  Steps of a relation, without a program: next and previous states by exists and by changed names; what is reached; pairs; how many nodes a product of literals has.
-/
import Derived.Test.YtdjjelknjojnfaaGreatQtc
import Derived.Test.YtdjjelknjojnfaaGreatCpc
import Derived.Test.YtdjjelknjojnfaaGreatCtc
namespace Go.Proofs.YtdjjelknjojnfaaGreat
open Rf (fixAt fixF halfN nextF prevF evN oddUpto prUpto)

/-! ## Halves of an assignment -/
theorem below16 {n : Nat} (p : Nat → Bool) (k : Nat) (h : (List.range k).all p = true) (hn : n < k) : p n = true := List.all_eq_true.1 h n (List.mem_range.2 hn)
theorem half_bit (x : Nat) (hx : x < 256) (i : Nat) (hi : i < 4) : (halfN x).testBit i = x.testBit (2 * i) := by
  have h := below16 (n := x) (fun x => (List.range 4).all fun i => (halfN x).testBit i == x.testBit (2 * i)) 256 (by kernel_rfl) hx
  have := below16 (n := i) (fun i => (halfN x).testBit i == x.testBit (2 * i)) 4 h hi
  simpa using this
theorem half_lt (x : Nat) : halfN x < 16 := by unfold halfN; omega
theorem four_same {x y : Nat} (hx : x < 16) (hy : y < 16) (h : ∀ i, i < 4 → x.testBit i = y.testBit i) : x = y := by
  refine Nat.eq_of_testBit_eq fun j => ?_
  by_cases c : j < 4
  · exact h j c
  · have p : (16 : Nat) ≤ 2 ^ j := by
      have : (2 : Nat) ^ 4 ≤ 2 ^ j := Nat.pow_le_pow_right (by omega) (by omega)
      omega
    rw [Nat.testBit_lt_two_pow (by omega), Nat.testBit_lt_two_pow (by omega)]
/-- The same current ones. -/
def Ev (x y : Nat) : Prop := ∀ i, i < 4 → x.testBit (2 * i) = y.testBit (2 * i)
theorem half_ev {x y : Nat} (hx : x < 256) (hy : y < 256) : halfN x = halfN y ↔ Ev x y := by
  constructor
  · intro h i hi
    rw [← half_bit x hx i hi, ← half_bit y hy i hi, h]
  · intro h
    exact four_same (half_lt _) (half_lt _) fun i hi => by rw [half_bit x hx i hi, half_bit y hy i hi, h i hi]
theorem div_bit (y j : Nat) : (y / 2).testBit j = y.testBit (j + 1) := by rw [Nat.testBit_succ]
theorem ev_bit (y : Nat) (hy : y < 256) (i : Nat) (hi : i < 4) : (evN y).testBit (2 * i) = y.testBit (2 * i + 1) := by
  have h := below16 (n := y) (fun y => (List.range 4).all fun i => (evN y).testBit (2 * i) == y.testBit (2 * i + 1)) 256 (by kernel_rfl) hy
  have := below16 (n := i) (fun i => (evN y).testBit (2 * i) == y.testBit (2 * i + 1)) 4 h hi
  simpa using this
theorem evN_lt (y : Nat) : evN y < 256 := Nat.lt_of_le_of_lt Nat.and_le_right (by decide)
theorem odd_iff (F G : Nat → Bool) (i : Nat) : ∀ k, oddUpto F G k i = true ↔ ∃ y, y < k ∧ F y = true ∧ G y = true ∧ i = halfN (y / 2)
  | 0 => by simp [oddUpto]
  | k + 1 => by
    rw [oddUpto, Bool.or_eq_true, odd_iff F G i k]
    simp only [Bool.and_eq_true, decide_eq_true_eq]
    constructor
    · rintro (⟨y, hy, h⟩ | ⟨⟨h1, h2⟩, h3⟩)
      · exact ⟨y, by omega, h⟩
      · exact ⟨k, by omega, h1, h2, h3⟩
    · rintro ⟨y, hy, h1, h2, h3⟩
      by_cases e : y = k
      · subst e; exact Or.inr ⟨⟨h1, h2⟩, h3⟩
      · exact Or.inl ⟨y, by omega, h1, h2, h3⟩
theorem pr_iff (F G : Nat → Bool) (x : Nat) : ∀ k, prUpto F G x k = true ↔ ∃ y, y < k ∧ halfN y = halfN x ∧ G y = true ∧ F (evN y) = true
  | 0 => by simp [prUpto]
  | k + 1 => by
    rw [prUpto, Bool.or_eq_true, pr_iff F G x k]
    simp only [Bool.and_eq_true, decide_eq_true_eq]
    constructor
    · rintro (⟨y, hy, h⟩ | ⟨⟨h1, h2⟩, h3⟩)
      · exact ⟨y, by omega, h⟩
      · exact ⟨k, by omega, h1, h2, h3⟩
    · rintro ⟨y, hy, h1, h2, h3⟩
      by_cases e : y = k
      · subst e; exact Or.inr ⟨⟨h1, h2⟩, h3⟩
      · exact Or.inl ⟨y, by omega, h1, h2, h3⟩
/-- A pair leads here from a state. -/
theorem nx_iff (F G : Nat → Bool) {x : Nat} (hx : x < 256) : nextF F G x = true ↔ ∃ y, y < 256 ∧ F y = true ∧ G y = true ∧ ∀ i, i < 4 → y.testBit (2 * i + 1) = x.testBit (2 * i) := by
  unfold nextF
  rw [odd_iff]
  constructor
  · rintro ⟨y, hy, h1, h2, h3⟩
    exact ⟨y, hy, h1, h2, fun i hi => by rw [← div_bit]; exact ((half_ev hx (by omega)).1 h3 i hi).symm⟩
  · rintro ⟨y, hy, h1, h2, h3⟩
    exact ⟨y, hy, h1, h2, (half_ev hx (by omega)).2 fun i hi => by rw [div_bit]; exact (h3 i hi).symm⟩
/-- A pair leads from here to a state. -/
theorem pv_iff (F G : Nat → Bool) {x : Nat} (hx : x < 256) : prevF F G x = true ↔ ∃ y, y < 256 ∧ Ev y x ∧ G y = true ∧ F (evN y) = true := by
  unfold prevF
  rw [pr_iff]
  constructor
  · rintro ⟨y, hy, h1, h2, h3⟩; exact ⟨y, hy, (half_ev hy hx).1 h1, h2, h3⟩
  · rintro ⟨y, hy, h1, h2, h3⟩; exact ⟨y, hy, (half_ev hy hx).2 h1, h2, h3⟩
/-- States: told by the current ones. -/
def Cur (X : Nat → Bool) : Prop := ∀ x y, x < 256 → y < 256 → Ev x y → X x = X y
theorem Cur.congr {X Y : Nat → Bool} (h : Cur X) (e : Eqt X Y) : Cur Y := fun x y hx hy q => by rw [← e x hx, ← e y hy]; exact h x y hx hy q
theorem Ev.symm {x y : Nat} (h : Ev x y) : Ev y x := fun i hi => (h i hi).symm
theorem Ev.trans {x y z : Nat} (h : Ev x y) (k : Ev y z) : Ev x z := fun i hi => (h i hi).trans (k i hi)
theorem nx_cur (F G : Nat → Bool) : Cur (nextF F G) := fun x y hx hy q => by unfold nextF; rw [(half_ev hx hy).2 q]
theorem pv_cur (F G : Nat → Bool) : Cur (prevF F G) := fun x y hx hy q => by
  rw [Bool.eq_iff_iff, pv_iff F G hx, pv_iff F G hy]
  exact ⟨fun ⟨z, a, b, c⟩ => ⟨z, a, b.trans q, c⟩, fun ⟨z, a, b, c⟩ => ⟨z, a, b.trans q.symm, c⟩⟩
theorem or_cur {F G : Nat → Bool} (h : Cur F) (k : Cur G) : Cur (fun y => F y || G y) := fun x y hx hy q => by
  show (F x || G x) = (F y || G y)
  rw [h x y hx hy q, k x y hx hy q]
/-- A function of so many variables. -/
def Tri (n : Nat) (X : Nat → Bool) : Prop := ∀ x y, x < 256 → y < 256 → (∀ j, j < n → x.testBit j = y.testBit j) → X x = X y
/-- The variables of a mask that a store of so many has. -/
def mkN (g n : Nat) : Nat := g &&& (255 / 2 ^ (8 - n))
theorem mkN_bit {g n j : Nat} (hn : n ≤ 8) (hj : j < 8) : (mkN g n).testBit j = (g.testBit j && decide (j < n)) := by
  unfold mkN
  rw [Nat.testBit_and]
  congr 1
  have h := below16 (n := n) (fun n => (List.range 8).all fun j => (255 / 2 ^ (8 - n)).testBit j == decide (j < n)) 9 (by kernel_rfl) (by omega)
  have := below16 (n := j) (fun j => (255 / 2 ^ (8 - n)).testBit j == decide (j < n)) 8 h hj
  simpa using this
theorem mkN_lt {g n : Nat} (hn : n ≤ 8) : mkN g n < 2 ^ n := by
  unfold mkN
  have h : 255 / 2 ^ (8 - n) < 2 ^ n := by
    have := below16 (n := n) (fun n => decide (255 / 2 ^ (8 - n) < 2 ^ n)) 9 (by kernel_rfl) (by omega)
    exact of_decide_eq_true this
  exact Nat.lt_of_le_of_lt Nat.and_le_right h
theorem even_of {v : Nat} (hv : v < 8) : (∃ i, i < 4 ∧ v = 2 * i) ∨ ∃ i, i < 4 ∧ v = 2 * i + 1 := by
  by_cases h : v % 2 = 0
  · exact Or.inl ⟨v / 2, by omega, by omega⟩
  · exact Or.inr ⟨v / 2, by omega, by omega⟩
theorem b85 {i : Nat} (hi : i < 4) : Nat.testBit 85 (2 * i) = true ∧ Nat.testBit 85 (2 * i + 1) = false := by
  have : i = 0 ∨ i = 1 ∨ i = 2 ∨ i = 3 := by omega
  rcases this with rfl | rfl | rfl | rfl <;> decide
theorem b170 {i : Nat} (hi : i < 4) : Nat.testBit 170 (2 * i) = false ∧ Nat.testBit 170 (2 * i + 1) = true := by
  have : i = 0 ∨ i = 1 ∨ i = 2 ∨ i = 3 := by omega
  rcases this with rfl | rfl | rfl | rfl <;> decide
theorem xor_even (i : Nat) : (2 * i) ^^^ 1 = 2 * i + 1 := by
  refine Nat.eq_of_testBit_eq fun j => ?_
  rw [Nat.testBit_xor]
  cases j with
  | zero => simp
  | succ j => rw [Nat.testBit_succ, Nat.testBit_succ, Nat.testBit_succ, show 2 * i / 2 = i by omega, show (2 * i + 1) / 2 = i by omega]; simp
theorem xor_odd (i : Nat) : (2 * i + 1) ^^^ 1 = 2 * i := by
  refine Nat.eq_of_testBit_eq fun j => ?_
  rw [Nat.testBit_xor]
  cases j with
  | zero => simp
  | succ j => rw [Nat.testBit_succ, Nat.testBit_succ, Nat.testBit_succ, show 2 * i / 2 = i by omega, show (2 * i + 1) / 2 = i by omega]; simp
/-- Each current one and the next one beside it change names. -/
def swG : Nat → Nat → Bool := fun u => Rf.M (u ^^^ 1)
def swN (n x : Nat) : Nat := sbA swG x n
theorem sw_lt {n x : Nat} (hn : n ≤ 8) (hx : x < 256) : swN n x < 256 := (sb_bit swG hx n hn).1
theorem sw_even {n x i : Nat} (hn : n ≤ 8) (hx : x < 256) : (swN n x).testBit (2 * i) = if 2 * i < n then x.testBit (2 * i + 1) else x.testBit (2 * i) := by
  unfold swN
  rw [(sb_bit swG hx n hn).2]
  unfold swG
  rw [xor_even, ← Rf.M_bit]
theorem sw_odd {n x i : Nat} (hn : n ≤ 8) (hx : x < 256) : (swN n x).testBit (2 * i + 1) = if 2 * i + 1 < n then x.testBit (2 * i) else x.testBit (2 * i + 1) := by
  unfold swN
  rw [(sb_bit swG hx n hn).2]
  unfold swG
  rw [xor_odd, ← Rf.M_bit]
/-- The next states: exists over the current ones, and the names changed. -/
theorem nx_pure {n : Nat} (hn : n ≤ 8) (h2 : n % 2 = 0) {X R : Nat → Bool} (tX : Tri n X) (tR : Tri n R) : Eqt (sbF n swG (exQ (mkN 85 n) (fun y => R y && X y))) (nextF X R) := fun x hx => by
  show exQ (mkN 85 n) _ (swN n x) = _
  rw [Bool.eq_iff_iff, exQ_iff, nx_iff X R hx]
  have h8 := sw_lt (n := 8) (Nat.le_refl _) hx
  constructor
  · rintro ⟨y, hy, a, f⟩
    rw [Bool.and_eq_true] at f
    have lo : ∀ j, j < n → (mixA (255 - (2 ^ n - 1)) (swN 8 x) y).testBit j = y.testBit j := fun j hj => by
      rw [mix_bit, if_neg]
      have h := below16 (n := n) (fun n => (List.range n).all fun j => !(255 - (2 ^ n - 1)).testBit j) 9 (by kernel_rfl) (by omega)
      have := below16 (n := j) (fun j => !(255 - (2 ^ n - 1)).testBit j) n h hj
      simpa using this
    have hi' : ∀ j, j < 8 → n ≤ j → (mixA (255 - (2 ^ n - 1)) (swN 8 x) y).testBit j = (swN 8 x).testBit j := fun j hj hn' => by
      rw [mix_bit, if_pos]
      have h := below16 (n := n) (fun n => (List.range 8).all fun j => decide (j < n) || (255 - (2 ^ n - 1)).testBit j) 9 (by kernel_rfl) (by omega)
      have := below16 (n := j) (fun j => decide (j < n) || (255 - (2 ^ n - 1)).testBit j) 8 h hj
      rw [decide_eq_false (by omega), Bool.false_or] at this
      exact this
    have zl := mix_lt (m := 255 - (2 ^ n - 1)) h8 hy
    refine ⟨_, zl, ?_, ?_, fun i hi => ?_⟩
    · rw [tX _ y zl hy lo]; exact f.2
    · rw [tR _ y zl hy lo]; exact f.1
    · by_cases c : 2 * i + 1 < n
      · rw [lo _ c, ← a (2 * i + 1) (by omega) (by rw [mkN_bit hn (by omega), (b85 hi).2]; rfl), sw_odd hn hx, if_pos c]
      · rw [hi' _ (by omega) (by omega), sw_odd (Nat.le_refl _) hx, if_pos (by omega)]
  · rintro ⟨y, hy, f1, f2, a⟩
    have lo : ∀ j, j < n → (mixA (2 ^ n - 1) y x).testBit j = y.testBit j := fun j hj => by
      rw [mix_bit, if_pos]
      rw [Nat.testBit_two_pow_sub_one]; exact decide_eq_true hj
    have hi' : ∀ j, n ≤ j → (mixA (2 ^ n - 1) y x).testBit j = x.testBit j := fun j hn' => by
      rw [mix_bit, if_neg]
      rw [Nat.testBit_two_pow_sub_one, decide_eq_false (by omega)]; exact Bool.false_ne_true
    have zl := mix_lt (m := 2 ^ n - 1) hy hx
    refine ⟨_, zl, fun j hj hm => ?_, ?_⟩
    · rcases even_of hj with ⟨i, hi, rfl⟩ | ⟨i, hi, rfl⟩
      · rw [mkN_bit hn hj, (b85 hi).1, Bool.true_and, decide_eq_false_iff_not] at hm
        rw [hi' _ (by omega), sw_even hn hx, if_neg hm]
      · by_cases c : 2 * i + 1 < n
        · rw [lo _ c, sw_odd hn hx, if_pos c, a i hi]
        · rw [hi' _ (by omega), sw_odd hn hx, if_neg c]
    · rw [tX _ y zl hy lo, tR _ y zl hy lo, f1, f2]; rfl
/-- The states ahead: the names changed, and exists over the next ones. -/
theorem pv_pure {n : Nat} (hn : n ≤ 8) (h2 : n % 2 = 0) {X R : Nat → Bool} (cX : Cur X) (tX : Tri n X) (tR : Tri n R) : Eqt (exQ (mkN 170 n) (fun y => R y && sbF n swG X y)) (prevF X R) := fun x hx => by
  rw [Bool.eq_iff_iff, exQ_iff, pv_iff X R hx]
  have key : ∀ y, y < 256 → sbF n swG X y = X (evN y) := fun y hy => by
    show X (swN n y) = _
    rw [cX (swN n y) (mixA (2 ^ n - 1) (evN y) (swN n y)) (sw_lt hn hy) (mix_lt (evN_lt y) (sw_lt hn hy)) fun i hi => by
      rw [mix_bit, Nat.testBit_two_pow_sub_one]
      by_cases c : 2 * i < n
      · rw [decide_eq_true c, if_pos rfl, ev_bit y hy i hi, sw_even hn hy, if_pos c]
      · rw [decide_eq_false c, if_neg Bool.false_ne_true]]
    refine tX _ _ (mix_lt (evN_lt y) (sw_lt hn hy)) (evN_lt y) fun j hj => ?_
    rw [mix_bit, Nat.testBit_two_pow_sub_one, decide_eq_true hj, if_pos rfl]
  constructor
  · rintro ⟨y, hy, a, f⟩
    rw [Bool.and_eq_true, key y hy] at f
    exact ⟨y, hy, fun i hi => (a (2 * i) (by omega) (by rw [mkN_bit hn (by omega), (b170 hi).1]; rfl)).symm, f.1, f.2⟩
  · rintro ⟨y, hy, a, f1, f2⟩
    have lo : ∀ j, j < n → (mixA (2 ^ n - 1) y x).testBit j = y.testBit j := fun j hj => by
      rw [mix_bit, if_pos]
      rw [Nat.testBit_two_pow_sub_one]; exact decide_eq_true hj
    have hi' : ∀ j, n ≤ j → (mixA (2 ^ n - 1) y x).testBit j = x.testBit j := fun j hn' => by
      rw [mix_bit, if_neg]
      rw [Nat.testBit_two_pow_sub_one, decide_eq_false (by omega)]; exact Bool.false_ne_true
    have zl := mix_lt (m := 2 ^ n - 1) hy hx
    refine ⟨_, zl, fun j hj hm => ?_, ?_⟩
    · by_cases c : j < n
      · rw [lo j c]
        rcases even_of hj with ⟨i, hi, rfl⟩ | ⟨i, hi, rfl⟩
        · exact (a i hi).symm
        · rw [mkN_bit hn hj, (b170 hi).2, decide_eq_true c] at hm
          cases hm
      · exact (hi' j (by omega)).symm
    · rw [Bool.and_eq_true, key _ zl, tR _ y zl hy lo]
      refine ⟨f1, ?_⟩
      rw [← f2]
      refine tX _ _ (evN_lt _) (evN_lt _) fun j hj => ?_
      by_cases c : j < 8
      · rcases even_of c with ⟨i, hi, rfl⟩ | ⟨i, hi, rfl⟩
        · rw [ev_bit _ zl i hi, ev_bit y hy i hi]
          exact lo _ (by omega)
        · unfold evN
          rw [Nat.testBit_and, Nat.testBit_and, (b85 hi).2, Bool.and_false, Bool.and_false]
      · omega
theorem nx_congr {X Y R T : Nat → Bool} (e : Eqt X Y) (q : Eqt R T) : Eqt (nextF X R) (nextF Y T) := fun x hx => by
  rw [Bool.eq_iff_iff, nx_iff _ _ hx, nx_iff _ _ hx]
  exact ⟨fun ⟨y, a, b, c, d⟩ => ⟨y, a, by rw [← e y a]; exact b, by rw [← q y a]; exact c, d⟩, fun ⟨y, a, b, c, d⟩ => ⟨y, a, by rw [e y a]; exact b, by rw [q y a]; exact c, d⟩⟩
theorem pv_congr {X Y R T : Nat → Bool} (e : Eqt X Y) (q : Eqt R T) : Eqt (prevF X R) (prevF Y T) := fun x hx => by
  rw [Bool.eq_iff_iff, pv_iff _ _ hx, pv_iff _ _ hx]
  exact ⟨fun ⟨y, a, b, c, d⟩ => ⟨y, a, b, by rw [← q y a]; exact c, by rw [← e _ (evN_lt y)]; exact d⟩, fun ⟨y, a, b, c, d⟩ => ⟨y, a, b, by rw [q y a]; exact c, by rw [e _ (evN_lt y)]; exact d⟩⟩
/-! ## What is reached -/
/-- Behind so many rounds. -/
def rchF (X R : Nat → Bool) : Nat → Nat → Bool
  | 0 => X
  | k + 1 => fun y => rchF X R k y || nextF (rchF X R k) R y
theorem rch_cur {X R : Nat → Bool} (h : Cur X) : ∀ k, Cur (rchF X R k)
  | 0 => h
  | k + 1 => or_cur (rch_cur h k) (nx_cur _ _)
theorem rch_congr {X Y R T : Nat → Bool} (e : Eqt X Y) (q : Eqt R T) : ∀ k, Eqt (rchF X R k) (rchF Y T k)
  | 0 => e
  | k + 1 => fun x hx => by
    show (_ || _) = (_ || _)
    rw [rch_congr e q k x hx, nx_congr (rch_congr e q k) q x hx]
theorem rch_le {X R : Nat → Bool} (k : Nat) {x : Nat} (h : rchF X R k x = true) : rchF X R (k + 1) x = true := by
  show (_ || _) = true
  rw [h]; rfl
/-- How many states. -/
def spN (i : Nat) : Nat := i % 2 + 4 * (i / 2 % 2) + 16 * (i / 4 % 2) + 64 * (i / 8 % 2)
theorem sp_lt (i : Nat) : spN i < 256 := by unfold spN; omega
theorem sp_half (x : Nat) (hx : x < 256) : Ev (spN (halfN x)) x := fun i hi => by
  have h := below16 (n := x) (fun x => (List.range 4).all fun i => (spN (halfN x)).testBit (2 * i) == x.testBit (2 * i)) 256 (by kernel_rfl) hx
  have := below16 (n := i) (fun i => (spN (halfN x)).testBit (2 * i) == x.testBit (2 * i)) 4 h hi
  simpa using this
def stC (X : Nat → Bool) : Nat := ((List.range 16).filter fun i => X (spN i)).length
theorem stC_le (X : Nat → Bool) : stC X ≤ 16 := by
  have := List.length_filter_le (fun i => X (spN i)) (List.range 16)
  rw [List.length_range] at this
  exact this
theorem filter_lt {p q : Nat → Bool} (l : List Nat) (h : ∀ i ∈ l, p i = true → q i = true) : (l.filter p).length ≤ (l.filter q).length ∧ ((∃ i ∈ l, p i = false ∧ q i = true) → (l.filter p).length < (l.filter q).length) := by
  induction l with
  | nil => exact ⟨Nat.le_refl _, fun ⟨i, hi, _⟩ => absurd hi List.not_mem_nil⟩
  | cons a t ih =>
    obtain ⟨i1, i2⟩ := ih fun i hi => h i (List.mem_cons_of_mem _ hi)
    have ha := h a (List.mem_cons_self ..)
    rw [List.filter_cons, List.filter_cons]
    cases cp : p a with
    | true =>
      rw [ha cp, if_pos rfl, if_pos rfl, List.length_cons, List.length_cons]
      refine ⟨by omega, fun ⟨i, hi, h1, h2⟩ => ?_⟩
      rcases List.mem_cons.1 hi with rfl | hi
      · rw [cp] at h1; cases h1
      · have := i2 ⟨i, hi, h1, h2⟩; omega
    | false =>
      rw [if_neg Bool.false_ne_true]
      cases cq : q a with
      | true =>
        rw [if_pos rfl, List.length_cons]
        exact ⟨by omega, fun _ => by omega⟩
      | false =>
        rw [if_neg Bool.false_ne_true]
        refine ⟨i1, fun ⟨i, hi, h1, h2⟩ => ?_⟩
        rcases List.mem_cons.1 hi with rfl | hi
        · rw [cq] at h2; cases h2
        · exact i2 ⟨i, hi, h1, h2⟩
theorem cur_ext {X Y : Nat → Bool} (cX : Cur X) (cY : Cur Y) (h : ∀ i, i < 16 → X (spN i) = Y (spN i)) : Eqt X Y := fun x hx => by
  rw [← cX _ x (sp_lt _) hx (sp_half x hx), ← cY _ x (sp_lt _) hx (sp_half x hx)]
  exact h _ (half_lt x)
/-- As long as there is something new there are more states. -/
theorem rch_more {X R : Nat → Bool} (cX : Cur X) (k : Nat) (h : ¬ Eqt (rchF X R (k + 1)) (rchF X R k)) : stC (rchF X R k) < stC (rchF X R (k + 1)) := by
  refine (filter_lt (List.range 16) fun i _ q => rch_le k q).2 ?_
  by_cases c : ∃ i ∈ List.range 16, rchF X R k (spN i) = false ∧ rchF X R (k + 1) (spN i) = true
  · exact c
  · refine absurd (cur_ext (rch_cur cX _) (rch_cur cX _) fun i hi => ?_) h
    cases q : rchF X R k (spN i) with
    | true => exact rch_le k q
    | false =>
      cases q2 : rchF X R (k + 1) (spN i) with
      | false => rfl
      | true => exact absurd ⟨i, List.mem_range.2 hi, q, q2⟩ c
theorem rch_many {X R : Nat → Bool} (cX : Cur X) : ∀ k, (∀ j, j < k → ¬ Eqt (rchF X R (j + 1)) (rchF X R j)) → k ≤ stC (rchF X R k)
  | 0, _ => Nat.zero_le _
  | k + 1, h => by
    have := rch_many cX k fun j hj => h j (by omega)
    have := rch_more cX k (h k (by omega))
    omega
/-- The round in which nothing is new is one of the first seventeen. -/
theorem rch_end {X R : Nat → Bool} (cX : Cur X) (k : Nat) (h : ∀ j, j < k → ¬ Eqt (rchF X R (j + 1)) (rchF X R j)) : k ≤ 16 := Nat.le_trans (rch_many cX k h) (stC_le _)
theorem rch_stay {X R : Nat → Bool} {k : Nat} (h : Eqt (rchF X R (k + 1)) (rchF X R k)) : ∀ j, Eqt (rchF X R (k + j)) (rchF X R k)
  | 0 => Eqt.refl _
  | j + 1 => fun x hx => by
    have ih := rch_stay h j
    show (rchF X R (k + j) x || nextF (rchF X R (k + j)) R x) = _
    rw [ih x hx, nx_congr ih (Eqt.refl R) x hx]
    exact h x hx
/-- The round in which nothing is new. -/
structure Rnd (X R : Nat → Bool) (k : Nat) : Prop where
  new : ∀ j, j < k → ¬ Eqt (rchF X R (j + 1)) (rchF X R j)
  stop : Eqt (rchF X R (k + 1)) (rchF X R k)
theorem Rnd.one {X R : Nat → Bool} {k j : Nat} (h : Rnd X R k) (q : Rnd X R j) : k = j := by
  by_cases c : k < j
  · exact absurd h.stop (q.new k c)
  · by_cases d : j < k
    · exact absurd q.stop (h.new j d)
    · omega
theorem Rnd.congr {X Y R T : Nat → Bool} {k : Nat} (h : Rnd X R k) (e : Eqt X Y) (q : Eqt R T) : Rnd Y T k :=
  ⟨fun j hj s => h.new j hj (((rch_congr e q _).trans s).trans (rch_congr e q _).symm), ((rch_congr e q _).symm.trans h.stop).trans (rch_congr e q _)⟩
end Go.Proofs.YtdjjelknjojnfaaGreat
