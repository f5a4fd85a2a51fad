/-
  Exists, forall, restrict of functions of eight variables, without a program: what they are, what they leave in a store.
  Laws of exists, forall, restrict, without a program.
  Package quant: masks by levels; the walk over whatever joins the halves.
  Package quant: the walk, over whatever joins the halves.
  Package quant by its face: Exists, Forall, Restrict; over a store with known handles.
  A store with two functions (the statements' help two); the statements' must.
-/
import Derived.Test.YtdjjelknjojnfaaGreatLgc
import Derived.Deep.RegionHeld3
import Derived.Deep.LoopGhost
import Derived.BigQuiet
namespace Go.Proofs.YtdjjelknjojnfaaGreat
open Rf (fixAt fixF)

/-! ## Functions -/
/-- Alike outside a mask. -/
def Agr (m x y : Nat) : Prop := ∀ j, j < 8 → m.testBit j = false → x.testBit j = y.testBit j
def agrB (m x y : Nat) : Bool := (List.range 8).all fun j => m.testBit j || (x.testBit j == y.testBit j)
theorem agrB_iff (m x y : Nat) : agrB m x y = true ↔ Agr m x y := by
  unfold agrB Agr
  rw [List.all_eq_true]
  constructor
  · intro h j hj hm
    have := h j (List.mem_range.2 hj)
    rw [hm, Bool.false_or, beq_iff_eq] at this
    exact this
  · intro h j hj
    cases c : m.testBit j with
    | true => rfl
    | false => rw [Bool.false_or, beq_iff_eq]; exact h j (List.mem_range.1 hj) c
def exQ (m : Nat) (F : Nat → Bool) (x : Nat) : Bool := (List.range 256).any fun y => agrB m x y && F y
def allQ (m : Nat) (F : Nat → Bool) (x : Nat) : Bool := !exQ m (fun y => !F y) x
/-- An assignment with the variables of a mask as in another one. -/
def mixA (m n x : Nat) : Nat := x ^^^ ((x ^^^ n) &&& m)
def resQ (m n : Nat) (F : Nat → Bool) (x : Nat) : Bool := F (mixA m n x)
theorem exQ_iff (m : Nat) (F : Nat → Bool) (x : Nat) : exQ m F x = true ↔ ∃ y, y < 256 ∧ Agr m x y ∧ F y = true := by
  unfold exQ
  rw [List.any_eq_true]
  constructor
  · rintro ⟨y, hy, h⟩
    rw [Bool.and_eq_true, agrB_iff] at h
    exact ⟨y, List.mem_range.1 hy, h⟩
  · rintro ⟨y, hy, h⟩
    exact ⟨y, List.mem_range.2 hy, by rw [Bool.and_eq_true, agrB_iff]; exact h⟩
theorem exQ_ext {m m' x x' : Nat} {F F' : Nat → Bool} (h1 : ∀ y, y < 256 → Agr m x y → F y = true → ∃ z, z < 256 ∧ Agr m' x' z ∧ F' z = true) (h2 : ∀ y, y < 256 → Agr m' x' y → F' y = true → ∃ z, z < 256 ∧ Agr m x z ∧ F z = true) : exQ m F x = exQ m' F' x' := by
  rw [Bool.eq_iff_iff, exQ_iff, exQ_iff]
  exact ⟨fun ⟨y, a, b, c⟩ => h1 y a b c, fun ⟨y, a, b, c⟩ => h2 y a b c⟩
theorem Agr.refl (m x : Nat) : Agr m x x := fun _ _ _ => rfl
theorem Agr.symm {m x y : Nat} (h : Agr m x y) : Agr m y x := fun j a b => (h j a b).symm
theorem Agr.trans {m x y z : Nat} (h : Agr m x y) (k : Agr m y z) : Agr m x z := fun j a b => (h j a b).trans (k j a b)
theorem num_same {x y : Nat} (hx : x < 256) (hy : y < 256) (h : ∀ j, j < 8 → x.testBit j = y.testBit j) : x = y := by
  refine Nat.eq_of_testBit_eq fun j => ?_
  by_cases c : j < 8
  · exact h j c
  · have p : (256 : Nat) ≤ 2 ^ j := by
      have : (2 : Nat) ^ 8 ≤ 2 ^ j := Nat.pow_le_pow_right (by omega) (by omega)
      omega
    rw [Nat.testBit_lt_two_pow (by omega), Nat.testBit_lt_two_pow (by omega)]
theorem fix_lt {x v : Nat} (hx : x < 256) (hv : v < 8) (b : Bool) : fixAt v b x < 256 := (fixAt_bits hx hv b).1
theorem fix_bit {x v : Nat} (hx : x < 256) (hv : v < 8) (b : Bool) (j : Nat) : (fixAt v b x).testBit j = if j = v then b else x.testBit j := by
  rw [(fixAt_bits hx hv b).2]
  rfl
theorem fix_agr {m x v : Nat} (hx : x < 256) (hv : v < 8) (hm : m.testBit v = true) (b : Bool) : Agr m x (fixAt v b x) := fun j _ h => by
  rw [fix_bit hx hv b, if_neg]
  rintro rfl
  rw [hm] at h
  cases h
theorem mix_bit (m n x j : Nat) : (mixA m n x).testBit j = if m.testBit j then n.testBit j else x.testBit j := by
  unfold mixA
  rw [Nat.testBit_xor, Nat.testBit_and, Nat.testBit_xor]
  cases m.testBit j <;> cases n.testBit j <;> cases x.testBit j <;> rfl
theorem mix_lt {m n x : Nat} (hn : n < 256) (hx : x < 256) : mixA m n x < 256 := by
  unfold mixA
  have h1 : x ^^^ n < 2 ^ 8 := Nat.xor_lt_two_pow hx hn
  exact Nat.xor_lt_two_pow (n := 8) hx (Nat.lt_of_le_of_lt Nat.and_le_left h1)

/-- What is taken out by a mask, and how two halves are joined. -/
structure IsQ (m : Nat) (J : Nat → Bool → Bool → Bool) (Q : (Nat → Bool) → Nat → Bool) : Prop where
  congr : ∀ F F', Eqt F F' → Eqt (Q F) (Q F')
  idle : ∀ F, (∀ x y, x < 256 → y < 256 → Agr m x y → F x = F y) → Eqt (Q F) F
  kept : ∀ F v b, v < 8 → m.testBit v = false → Eqt (fixF (Q F) v b) (Q (fixF F v b))
  taken : ∀ F v, v < 8 → m.testBit v = true → Eqt (Q F) (fun x => J v (Q (fixF F v false) x) (Q (fixF F v true) x))
def jEx (_v : Nat) (a b : Bool) : Bool := a || b
def jAll (_v : Nat) (a b : Bool) : Bool := a && b
def jRes (n v : Nat) (a b : Bool) : Bool := if n.testBit v then b else a
theorem ex_is (m : Nat) : IsQ m jEx (exQ m) := by
  refine ⟨fun F F' e x _ => ?_, fun F h x hx => ?_, fun F v b hv hm x hx => ?_, fun F v hv hm x hx => ?_⟩
  · exact exQ_ext (fun y hy a f => ⟨y, hy, a, by rw [← e y hy]; exact f⟩) (fun y hy a f => ⟨y, hy, a, by rw [e y hy]; exact f⟩)
  · rw [Bool.eq_iff_iff, exQ_iff]
    constructor
    · rintro ⟨y, hy, a, f⟩
      rw [h x y hx hy a]
      exact f
    · exact fun f => ⟨x, hx, Agr.refl m x, f⟩
  · show exQ m F (fixAt v b x) = exQ m (fixF F v b) x
    refine exQ_ext (fun y hy a f => ?_) (fun y hy a f => ?_)
    · refine ⟨fixAt v (x.testBit v) y, fix_lt hy hv _, fun j hj hmj => ?_, ?_⟩
      · rw [fix_bit hy hv]
        by_cases c : j = v
        · rw [if_pos c, c]
        · rw [if_neg c, ← a j hj hmj, fix_bit hx hv, if_neg c]
      · show F (fixAt v b (fixAt v (x.testBit v) y)) = true
        rw [show fixAt v b (fixAt v (x.testBit v) y) = y from num_same (fix_lt (fix_lt hy hv _) hv _) hy fun j hj => by
          rw [fix_bit (fix_lt hy hv _) hv, fix_bit hy hv]
          by_cases c : j = v
          · rw [if_pos c, c, ← a v hv hm, fix_bit hx hv, if_pos rfl]
          · rw [if_neg c, if_neg c]]
        exact f
    · refine ⟨fixAt v b y, fix_lt hy hv _, fun j hj hmj => ?_, f⟩
      rw [fix_bit hx hv, fix_bit hy hv]
      by_cases c : j = v
      · rw [if_pos c, if_pos c]
      · rw [if_neg c, if_neg c]
        exact a j hj hmj
  · show exQ m F x = (exQ m (fixF F v false) x || exQ m (fixF F v true) x)
    rw [Bool.eq_iff_iff, Bool.or_eq_true, exQ_iff, exQ_iff, exQ_iff]
    constructor
    · rintro ⟨y, hy, a, f⟩
      have s := fixAt_same hy hv
      cases c : y.testBit v with
      | false => rw [c] at s; exact .inl ⟨y, hy, a, by show F (fixAt v false y) = true; rw [s]; exact f⟩
      | true => rw [c] at s; exact .inr ⟨y, hy, a, by show F (fixAt v true y) = true; rw [s]; exact f⟩
    · rintro (⟨y, hy, a, f⟩ | ⟨y, hy, a, f⟩)
      · exact ⟨fixAt v false y, fix_lt hy hv _, a.trans (fix_agr hy hv hm _), f⟩
      · exact ⟨fixAt v true y, fix_lt hy hv _, a.trans (fix_agr hy hv hm _), f⟩
theorem all_is (m : Nat) : IsQ m jAll (allQ m) := by
  have i := ex_is m
  refine ⟨fun F F' e x hx => ?_, fun F h x hx => ?_, fun F v b hv hm x hx => ?_, fun F v hv hm x hx => ?_⟩
  · show (!_) = (!_)
    rw [i.congr (fun y => !F y) (fun y => !F' y) (fun y hy => congrArg (fun b => !b) (e y hy)) x hx]
  · show (!_) = _
    rw [i.idle (fun y => !F y) (fun y z hy hz a => congrArg (fun b => !b) (h y z hy hz a)) x hx, Bool.not_not]
  · show (!_) = (!_)
    exact congrArg _ (i.kept (fun y => !F y) v b hv hm x hx)
  · show (!_) = ((!_) && (!_))
    rw [i.taken (fun y => !F y) v hv hm x hx]
    unfold jEx
    rw [Bool.not_or]
    rfl
theorem res_is (m n : Nat) (hn : n < 256) : IsQ m (jRes n) (resQ m n) := by
  refine ⟨fun F F' e x hx => e _ (mix_lt hn hx), fun F h x hx => ?_, fun F v b hv hm x hx => ?_, fun F v hv hm x hx => ?_⟩
  · refine (h x _ hx (mix_lt hn hx) fun j _ hm => ?_).symm
    rw [mix_bit, hm]
    rfl
  · show F (mixA m n (fixAt v b x)) = F (fixAt v b (mixA m n x))
    refine congrArg F (num_same (mix_lt hn (fix_lt hx hv b)) (fix_lt (mix_lt hn hx) hv b) fun j _ => ?_)
    rw [mix_bit, fix_bit hx hv, fix_bit (mix_lt hn hx) hv, mix_bit]
    by_cases c : j = v
    · rw [if_pos c, if_pos c, c, hm]
      rfl
    · rw [if_neg c, if_neg c]
  · show F (mixA m n x) = if n.testBit v then F (fixAt v true (mixA m n x)) else F (fixAt v false (mixA m n x))
    have s := fixAt_same (mix_lt (m := m) hn hx) hv
    rw [mix_bit, hm, if_pos rfl] at s
    cases c : n.testBit v with
    | true => rw [c] at s; rw [if_pos rfl, s]
    | false => rw [c] at s; rw [if_neg (by decide), s]

/-! ## As the tables reckon them -/
theorem M_bit' (v m : Nat) : Rf.M v m = m.testBit v := (Rf.M_bit _ _).symm
theorem exUpto_iff (F : Nat → Bool) (m : Nat) : ∀ k, k ≤ 8 → ∀ x, x < 256 → (Rf.exUpto F m k x = true ↔ ∃ y, y < 256 ∧ (∀ j, j < 8 → (m.testBit j = false ∨ k ≤ j) → x.testBit j = y.testBit j) ∧ F y = true)
  | 0, _, x, hx => by
    show F x = true ↔ _
    constructor
    · exact fun f => ⟨x, hx, fun _ _ _ => rfl, f⟩
    · rintro ⟨y, hy, a, f⟩
      rw [num_same hx hy fun j hj => a j hj (.inr (by omega))]
      exact f
  | k + 1, hk, x, hx => by
    have ih := exUpto_iff F m k (by omega)
    rw [Rf.exUpto, M_bit']
    cases c : m.testBit k with
    | false =>
      rw [if_neg (by decide), ih x hx]
      constructor
      · rintro ⟨y, hy, a, f⟩
        exact ⟨y, hy, fun j hj h => a j hj (h.imp id (by omega)), f⟩
      · rintro ⟨y, hy, a, f⟩
        refine ⟨y, hy, fun j hj h => a j hj ?_, f⟩
        rcases h with h | h
        · exact .inl h
        · by_cases e : j = k
          · exact .inl (by rw [e]; exact c)
          · exact .inr (by omega)
    | true =>
      rw [if_pos rfl]
      show (Rf.exUpto F m k (fixAt k false x) || Rf.exUpto F m k (fixAt k true x)) = true ↔ _
      have l := fun b => fix_lt hx (show k < 8 by omega) b
      rw [Bool.or_eq_true, ih _ (l false), ih _ (l true)]
      constructor
      · have key : ∀ b, (∃ y, y < 256 ∧ (∀ j, j < 8 → (m.testBit j = false ∨ k ≤ j) → (fixAt k b x).testBit j = y.testBit j) ∧ F y = true) → ∃ y, y < 256 ∧ (∀ j, j < 8 → (m.testBit j = false ∨ k + 1 ≤ j) → x.testBit j = y.testBit j) ∧ F y = true := by
          rintro b ⟨y, hy, a, f⟩
          refine ⟨y, hy, fun j hj h => ?_, f⟩
          rw [← a j hj (h.imp id (by omega)), fix_bit hx (by omega), if_neg]
          rintro rfl
          rcases h with h | h
          · rw [c] at h; cases h
          · omega
        rintro (h | h)
        · exact key false h
        · exact key true h
      · rintro ⟨y, hy, a, f⟩
        have key : ∃ z, z < 256 ∧ (∀ j, j < 8 → (m.testBit j = false ∨ k ≤ j) → (fixAt k (y.testBit k) x).testBit j = z.testBit j) ∧ F z = true := by
          refine ⟨y, hy, fun j hj h => ?_, f⟩
          rw [fix_bit hx (by omega)]
          by_cases e : j = k
          · rw [if_pos e, e]
          · rw [if_neg e]
            exact a j hj (h.imp id (by omega))
        cases e : y.testBit k with
        | false => rw [e] at key; exact .inl key
        | true => rw [e] at key; exact .inr key
theorem exUpto_ex (F : Nat → Bool) (m : Nat) : Eqt (Rf.exUpto F m 8) (exQ m F) := fun x hx => by
  rw [Bool.eq_iff_iff, exUpto_iff F m 8 (by omega) x hx, exQ_iff]
  constructor
  · rintro ⟨y, hy, a, f⟩
    exact ⟨y, hy, fun j hj h => a j hj (.inl h), f⟩
  · rintro ⟨y, hy, a, f⟩
    exact ⟨y, hy, fun j hj h => a j hj (h.resolve_right (by omega)), f⟩
theorem resUpto_mix (F : Nat → Bool) (m n : Nat) (hn : n < 256) : ∀ k, k ≤ 8 → ∀ x, x < 256 → Rf.resUpto F m n k x = F (mixA (m % 2 ^ k) n x)
  | 0, _, x, hx => by
    show F x = _
    rw [show mixA (m % 2 ^ 0) n x = x from num_same (mix_lt hn hx) hx fun j _ => by
      rw [mix_bit, Nat.pow_zero, Nat.mod_one, Nat.zero_testBit]
      rfl]
  | k + 1, hk, x, hx => by
    have ih := resUpto_mix F m n hn k (by omega)
    rw [Rf.resUpto, M_bit', M_bit']
    have hk8 : k < 8 := by omega
    have tb : ∀ j, (m % 2 ^ (k + 1)).testBit j = if j = k then m.testBit k else (m % 2 ^ k).testBit j := fun j => by
      rw [Nat.testBit_mod_two_pow, Nat.testBit_mod_two_pow]
      by_cases e : j = k
      · subst e
        rw [if_pos rfl]
        simp
      · rw [if_neg e]
        by_cases c : j < k
        · simp [c, show j < k + 1 by omega]
        · simp [c, show ¬ j < k + 1 by omega]
    have tk : (m % 2 ^ k).testBit k = false := by
      rw [Nat.testBit_mod_two_pow]
      simp
    cases c : m.testBit k with
    | false =>
      rw [if_neg (by decide), ih x hx]
      refine congrArg F (num_same (mix_lt hn hx) (mix_lt hn hx) fun j _ => ?_)
      rw [mix_bit, mix_bit, tb j]
      by_cases e : j = k
      · rw [if_pos e, e, c, tk]
      · rw [if_neg e]
    | true =>
      rw [if_pos rfl]
      show Rf.resUpto F m n k (fixAt k (n.testBit k) x) = _
      rw [ih _ (fix_lt hx hk8 _)]
      refine congrArg F (num_same (mix_lt hn (fix_lt hx hk8 _)) (mix_lt hn hx) fun j _ => ?_)
      rw [mix_bit, mix_bit, tb j, fix_bit hx hk8]
      by_cases e : j = k
      · rw [if_pos e, if_pos e, e, c, tk]
        rfl
      · rw [if_neg e, if_neg e]
theorem resUpto_res (F : Nat → Bool) (m n : Nat) (hm : m < 256) (hn : n < 256) : Eqt (Rf.resUpto F m n 8) (resQ m n F) := fun x hx => by
  rw [resUpto_mix F m n hn 8 (by omega) x hx, Nat.mod_eq_of_lt hm]
  rfl

/-! ## What an operation leaves -/
def uq (j : Nat) : Nat := j * 2 ^ j
theorem uq_step (j : Nat) : 2 * uq j + 2 * 2 ^ j ≤ uq (j + 1) := by
  unfold uq
  have e : (j + 1) * 2 ^ (j + 1) = 2 * (j * 2 ^ j) + 2 * 2 ^ j := by rw [Nat.pow_succ, Nat.add_mul, Nat.mul_comm (2 ^ j) 2, Nat.mul_left_comm, Nat.one_mul]
  omega
theorem uq_mono {i j : Nat} (h : i ≤ j) : uq i ≤ uq j := Nat.mul_le_mul h (Nat.pow_le_pow_right (by omega) h)
theorem uq_two {n L : Nat} : 2 * uq (n - 2 - (L + 1)) + (2 ^ (n - 2 - (L + 1)) - 1) + (if L + 2 < n then 1 else 0) ≤ uq (n - 2 - L) := by
  by_cases c : L + 2 < n
  · rw [if_pos c, show n - 2 - L = (n - 2 - (L + 1)) + 1 by omega]
    have := uq_step (n - 2 - (L + 1))
    have := two_pow_pos' (n - 2 - (L + 1))
    omega
  · rw [if_neg c, show n - 2 - (L + 1) = 0 by omega]
    unfold uq
    simp
/-- The answer's node is there. -/
structure GotQ (M : Mdl) (k : Nat) (F : Nat → Bool) (x : Nat) (M' : Mdl) : Prop where
  grew : Mdl.Grew M M'
  node : M'.isNode x
  lev : k ≤ M'.lev x
  tbl : Eqt (M'.tbl x) F
  up : M'.up ≤ M.up + uq (M.n - 2 - k)
/-- The store is full. -/
structure StuckQ (M : Mdl) (k : Nat) (M' : Mdl) : Prop where
  grew : Mdl.Grew M M'
  full : M'.hs.length = M'.room
  up : M'.up ≤ M.up + uq (M.n - 2 - k)
def ToldQ (M : Mdl) (k : Nat) (F : Nat → Bool) (x : Nat) (er : Int) (M' : Mdl) : Prop := (er = 0 ∧ GotQ M k F x M') ∨ (er = 60 ∧ x = 0 ∧ StuckQ M k M')
section
variable {M M1 M2 M3 : Mdl} {F F' X0 X1 : Nat → Bool} {k L x p q : Nat} {er : Int}
theorem GotQ.here (hx : M.isNode x) (hk : k ≤ M.lev x) (e : Eqt (M.tbl x) F) : GotQ M k F x M := ⟨Mdl.Grew.refl M, hx, hk, e, by omega⟩
theorem GotQ.raise (g : GotQ M L F x M1) (h : k ≤ L) : GotQ M k F x M1 := ⟨g.grew, g.node, Nat.le_trans h g.lev, g.tbl, by have := g.up; have := uq_mono (show M.n - 2 - L ≤ M.n - 2 - k by omega); omega⟩
theorem StuckQ.raise (g : StuckQ M L M1) (h : k ≤ L) : StuckQ M k M1 := ⟨g.grew, g.full, by have := g.up; have := uq_mono (show M.n - 2 - L ≤ M.n - 2 - k by omega); omega⟩
theorem ToldQ.raise (g : ToldQ M L F x er M1) (h : k ≤ L) : ToldQ M k F x er M1 := g.imp (fun g => ⟨g.1, g.2.raise h⟩) fun g => ⟨g.1, g.2.1, g.2.2.raise h⟩
theorem GotQ.like (e : Eqt F F') (g : GotQ M k F x M1) : GotQ M k F' x M1 := ⟨g.grew, g.node, g.lev, g.tbl.trans e, g.up⟩
theorem ToldQ.like (e : Eqt F F') (g : ToldQ M k F x er M1) : ToldQ M k F' x er M1 := g.imp (fun g => ⟨g.1, g.2.like e⟩) id
theorem StuckQ.high (g1 : GotQ M (L + 1) X0 p M1) (g : StuckQ M1 (L + 1) M2) : StuckQ M L M2 := by
  have u1 := g1.up
  have u2 := g.up
  rw [g1.grew.n] at u2
  have := uq_two (n := M.n) (L := L)
  exact ⟨g1.grew.trans g.grew, g.full, by omega⟩
theorem GotQ.two (o1 : M1.Ok) (g1 : GotQ M (L + 1) X0 p M1) (g2 : GotQ M1 (L + 1) X1 q M2) : Mdl.Grew M M2 ∧ (M2.isNode p ∧ L + 1 ≤ M2.lev p ∧ Eqt (M2.tbl p) X0) ∧ (M2.isNode q ∧ L + 1 ≤ M2.lev q ∧ Eqt (M2.tbl q) X1) ∧ M2.up ≤ M.up + 2 * uq (M.n - 2 - (L + 1)) := by
  have u1 := g1.up
  have u2 := g2.up
  rw [g1.grew.n] at u2
  exact ⟨g1.grew.trans g2.grew, ⟨g2.grew.isNode g1.node, by rw [g2.grew.lev g1.node]; exact g1.lev, fun y hy => by rw [g2.grew.tbl o1 g1.node]; exact g1.tbl y hy⟩, ⟨g2.node, g2.lev, g2.tbl⟩, by omega⟩
/-- What is left when both halves are there: two nodes in a store that has grown. -/
structure Pr2 (M : Mdl) (L : Nat) (X0 X1 : Nat → Bool) (p q : Nat) (M' : Mdl) : Prop where
  grew : Mdl.Grew M M'
  lo : M'.isNode p ∧ L + 1 ≤ M'.lev p ∧ Eqt (M'.tbl p) X0
  hi : M'.isNode q ∧ L + 1 ≤ M'.lev q ∧ Eqt (M'.tbl q) X1
  up : M'.up ≤ M.up + 2 * uq (M.n - 2 - (L + 1))
theorem GotQ.pair (o1 : M1.Ok) (g1 : GotQ M (L + 1) X0 p M1) (g2 : GotQ M1 (L + 1) X1 q M2) : Pr2 M L X0 X1 p q M2 := by
  obtain ⟨a, b, c, d⟩ := g1.two o1 g2
  exact ⟨a, b, c, d⟩
theorem Pr2.like {Y0 Y1 : Nat → Bool} (t : Pr2 M L X0 X1 p q M2) (e0 : Eqt X0 Y0) (e1 : Eqt X1 Y1) : Pr2 M L Y0 Y1 p q M2 := ⟨t.grew, ⟨t.lo.1, t.lo.2.1, t.lo.2.2.trans e0⟩, ⟨t.hi.1, t.hi.2.1, t.hi.2.2.trans e1⟩, t.up⟩
/-- Joined by an operation of package logic. -/
theorem Pr2.taken {op : Bool → Bool → Bool → Bool} {J : Bool → Bool → Bool} (t : Pr2 M L X0 X1 p q M2) (hJ : ∀ a b c, op a b c = J a b) (e : Eqt F (fun y => J (X0 y) (X1 y))) (g : Told M2 (L + 1) (ans M2 op p q 0) x er M3) : ToldQ M L F x er M3 := by
  have u := t.up
  have uu := uq_two (n := M.n) (L := L)
  rcases g with ⟨rfl, g⟩ | ⟨rfl, rfl, g⟩
  · have u3 := g.up
    rw [t.grew.n] at u3
    refine .inl ⟨rfl, t.grew.trans g.grew, g.node, by have := g.lev; omega, fun y hy => ?_, by omega⟩
    rw [g.tbl y hy, e y hy]
    unfold ans
    rw [hJ, t.lo.2.2 y hy, t.hi.2.2 y hy]
  · have u3 := g.up
    rw [t.grew.n] at u3
    exact .inr ⟨rfl, rfl, t.grew.trans g.grew, g.full, by omega⟩
/-- Kept: the node's own variable stays. -/
theorem Pr2.same (o2 : M2.Ok) (hL : L < M.n) (t : Pr2 M L (fixF F (M.v L) false) (fixF F (M.v L) true) p p M2) : GotQ M L F p M2 := by
  have u := t.up
  have uu := uq_two (n := M.n) (L := L)
  have hv : M.v L < 8 := by rw [← t.grew.v]; exact v8 o2 (by rw [t.grew.n]; exact hL)
  refine ⟨t.grew, t.lo.1, by have := t.lo.2.1; omega, ?_, by omega⟩
  exact t.lo.2.2.trans (fix_same hv (t.lo.2.2.symm.trans t.hi.2.2))
theorem Pr2.fits (hL : L < M.n) (t : Pr2 M L X0 X1 p q M2) (ne : p ≠ q) : M2.Fits (L, p, q) := ⟨by show L < M2.n; rw [t.grew.n]; exact hL, ne, ⟨t.lo.1, t.lo.2.1⟩, ⟨t.hi.1, t.hi.2.1⟩⟩
theorem Pr2.join (o2 : M2.Ok) (hL : L < M.n) (t : Pr2 M L (fixF F (M.v L) false) (fixF F (M.v L) true) p q M2) (ne : p ≠ q) (o3 : M3.Ok) (c : (x ∈ M2.hs ∧ M2.nd x = (L, p, q) ∧ M3 = M2) ∨ M2.Adds x (L, p, q) M3) : GotQ M L F x M3 := by
  have u := t.up
  have uu := uq_two (n := M.n) (L := L)
  have f := t.fits hL ne
  have tp : Eqt (M2.tbl p) (fixF F (M2.v L) false) := by rw [t.grew.v]; exact t.lo.2.2
  have tq : Eqt (M2.tbl q) (fixF F (M2.v L) true) := by rw [t.grew.v]; exact t.hi.2.2
  rcases c with ⟨xm, xe, rfl⟩ | ad
  · exact ⟨t.grew, .inr xm, by rw [Mdl.lev_in o2 xm, xe]; exact Nat.le_refl _, Mdl.joined o2 xm (by rw [xe]; exact tp) (by rw [xe]; exact tq), by omega⟩
  · have ua := ad.up o3
    rw [t.grew.n] at ua
    have : (L, p, q).1 = L := rfl
    rw [this] at ua
    exact ⟨t.grew.trans ad.grew, .inr ad.at.1, by rw [Mdl.lev_in o3 ad.at.1, ad.at.2]; exact Nat.le_refl _, Mdl.join ad o2 o3 f tp tq, by omega⟩
theorem Pr2.full (t : Pr2 M L X0 X1 p q M2) (full : M2.hs.length = M2.room) : StuckQ M L M2 := ⟨t.grew, full, by have := t.up; have := uq_two (n := M.n) (L := L); omega⟩
theorem StuckQ.never (o' : M1.Ok) (g : StuckQ M k M1) (room : M.up + uq (M.n - 2 - k) + 19 ≤ M.room) : False := by
  have := Mdl.len_le o'
  have := g.full
  have := g.up
  have := g.grew.room
  omega
end

/-! ## Levels -/
/-- A mask by levels. -/
def ByLev (M : Mdl) (m o : Nat) : Prop := o < 256 ∧ ∀ j, j < 8 → o.testBit j = (decide (j < M.n) && m.testBit (M.v j))
theorem ByLev.grew {M M' : Mdl} {m o : Nat} (b : ByLev M m o) (g : Mdl.Grew M M') : ByLev M' m o := ⟨b.1, fun j hj => by rw [g.n, g.v]; exact b.2 j hj⟩
theorem ByLev.at {M : Mdl} (k : M.Ok) {m o L : Nat} (b : ByLev M m o) (hL : L < M.n) : o.testBit L = m.testBit (M.v L) := by
  rw [b.2 L (by have := k.le8; omega), decide_eq_true hL, Bool.true_and]
theorem IsQ.at {M : Mdl} {m L h : Nat} {J : Nat → Bool → Bool → Bool} {Q : (Nat → Bool) → Nat → Bool} (i : IsQ m J Q) (k : M.Ok) (hm : h ∈ M.hs) (hL : (M.nd h).1 = L) (hb : m.testBit (M.v L) = true) : Eqt (Q (M.tbl h)) (fun y => J (M.v L) (Q (M.tbl (M.nd h).2.1) y) (Q (M.tbl (M.nd h).2.2) y)) := fun y hy => by
  subst hL
  have hv := v8 k (k.lv h hm)
  have e := i.taken (M.tbl h) _ hv hb y hy
  have e0 := i.congr _ _ (tbl_lo k hm) y hy
  have e1 := i.congr _ _ (tbl_hi k hm) y hy
  show _ = J _ _ _
  rw [e, e0, e1]
theorem IsQ.by {M : Mdl} {m L h : Nat} {J : Nat → Bool → Bool → Bool} {Q : (Nat → Bool) → Nat → Bool} (i : IsQ m J Q) (k : M.Ok) (hm : h ∈ M.hs) (hL : (M.nd h).1 = L) (hb : m.testBit (M.v L) = false) : Eqt (Q (M.tbl (M.nd h).2.1)) (fixF (Q (M.tbl h)) (M.v L) false) ∧ Eqt (Q (M.tbl (M.nd h).2.2)) (fixF (Q (M.tbl h)) (M.v L) true) := by
  subst hL
  have hv := v8 k (k.lv h hm)
  exact ⟨(i.congr _ _ (tbl_lo k hm)).trans (i.kept _ _ false hv hb).symm, (i.congr _ _ (tbl_hi k hm)).trans (i.kept _ _ true hv hb).symm⟩
/-- Nothing is taken out from a level on. -/
theorem ByLev.idle {M : Mdl} (k : M.Ok) {m o L h : Nat} {J : Nat → Bool → Bool → Bool} {Q : (Nat → Bool) → Nat → Bool} (i : IsQ m J Q) (b : ByLev M m o) (hh : M.isNode h) (hL : L ≤ M.lev h) (z : o / 2 ^ L = 0) : Eqt (M.tbl h) (Q (M.tbl h)) := by
  refine (i.idle _ fun x y hx hy a => tbl_dep k hh hL x y hx hy fun j hj hn => a _ (v8 k hn) ?_).symm
  rw [← b.at k hn]
  have lt : o < 2 ^ L := by
    rcases Nat.div_eq_zero_iff.1 z with c | c
    · have := two_pow_pos' L; omega
    · exact c
  exact Nat.testBit_lt_two_pow (Nat.lt_of_lt_of_le lt (Nat.pow_le_pow_right (by omega) hj))
end Go.Proofs.YtdjjelknjojnfaaGreat

namespace Go.Proofs.YtdjjelknjojnfaaGreat
open Rf (fixAt fixF)

theorem ex_ex (a b : Nat) (F : Nat → Bool) : Eqt (exQ b (exQ a F)) (exQ (a ||| b) F) := fun x hx => by
  rw [Bool.eq_iff_iff, exQ_iff, exQ_iff]
  constructor
  · rintro ⟨y, hy, g, f⟩
    obtain ⟨z, hz, g', f'⟩ := (exQ_iff _ _ _).1 f
    refine ⟨z, hz, fun j hj h => ?_, f'⟩
    rw [Nat.testBit_or, Bool.or_eq_false_iff] at h
    exact (g j hj h.2).trans (g' j hj h.1)
  · rintro ⟨z, hz, g, f⟩
    refine ⟨mixA b z x, mix_lt hz hx, fun j _ h => ?_, (exQ_iff _ _ _).2 ⟨z, hz, fun j hj h => ?_, f⟩⟩
    · rw [mix_bit, h]
      rfl
    · rw [mix_bit]
      cases c : b.testBit j with
      | true => rfl
      | false => exact g j hj (by rw [Nat.testBit_or, h, c]; rfl)
theorem all_all (a b : Nat) (F : Nat → Bool) : Eqt (allQ a (allQ b F)) (allQ (a ||| b) F) := fun x hx => by
  show (!_) = (!_)
  rw [(ex_is a).congr (fun y => !allQ b F y) (exQ b (fun y => !F y)) (fun y _ => Bool.not_not _) x hx, ex_ex b a _ x hx, Nat.or_comm]
theorem ex_none (F : Nat → Bool) : Eqt (exQ 0 F) F := (ex_is 0).idle F fun x y hx hy h => by rw [num_same hx hy fun j hj => h j hj (Nat.zero_testBit j)]
theorem res_none (n : Nat) (hn : n < 256) (F : Nat → Bool) : Eqt (resQ 0 n F) F := (res_is 0 n hn).idle F fun x y hx hy h => by rw [num_same hx hy fun j hj => h j hj (Nat.zero_testBit j)]
theorem dual_ex (m : Nat) (F : Nat → Bool) : Eqt (fN (exQ m (fN F))) (allQ m F) := fun _ _ => rfl
theorem pow_lt8 {v : Nat} (hv : v < 8) : 2 ^ v < 256 := Nat.pow_lt_pow_right (a := 2) (n := 8) (by decide) hv
theorem mix_one {v n x : Nat} (hv : v < 8) (hn : n < 256) (hx : x < 256) : mixA (2 ^ v) n x = fixAt v (n.testBit v) x :=
  num_same (mix_lt hn hx) (fix_lt hx hv _) fun j _ => by
    rw [mix_bit, fix_bit hx hv, Nat.testBit_two_pow]
    by_cases c : v = j
    · rw [if_pos (decide_eq_true c), if_pos c.symm, c]
    · rw [if_neg (by simpa using c), if_neg fun e => c e.symm]
theorem bit255 {v : Nat} (hv : v < 8) : (255 : Nat).testBit v = true := by
  have h : v = 0 ∨ v = 1 ∨ v = 2 ∨ v = 3 ∨ v = 4 ∨ v = 5 ∨ v = 6 ∨ v = 7 := by omega
  rcases h with rfl | rfl | rfl | rfl | rfl | rfl | rfl | rfl <;> rfl
theorem res_low {v : Nat} (hv : v < 8) (F : Nat → Bool) : Eqt (resQ (2 ^ v) 0 F) (fixF F v false) := fun x hx => by
  show F _ = F _
  rw [mix_one hv (by omega) hx, Nat.zero_testBit]
theorem res_high {v : Nat} (hv : v < 8) (F : Nat → Bool) : Eqt (resQ (2 ^ v) 255 F) (fixF F v true) := fun x hx => by
  show F _ = F _
  rw [mix_one hv (by omega) hx, bit255 hv]
theorem fix_free {v : Nat} (hv : v < 8) (F : Nat → Bool) (b : Bool) : ∀ x y, x < 256 → y < 256 → Agr (2 ^ v) x y → fixF F v b x = fixF F v b y := fun x y hx hy h => by
  show F _ = F _
  refine congrArg F (num_same (fix_lt hx hv b) (fix_lt hy hv b) fun j hj => ?_)
  rw [fix_bit hx hv, fix_bit hy hv]
  by_cases c : j = v
  · rw [if_pos c, if_pos c]
  · rw [if_neg c, if_neg c]
    exact h j hj (by rw [Nat.testBit_two_pow]; exact decide_eq_false fun e => c e.symm)
theorem pow_self (v : Nat) : (2 ^ v).testBit v = true := by rw [Nat.testBit_two_pow]; exact decide_eq_true rfl
theorem ex_one {v : Nat} (hv : v < 8) (F : Nat → Bool) : Eqt (fO (resQ (2 ^ v) 0 F) (resQ (2 ^ v) 255 F)) (exQ (2 ^ v) F) := fun x hx => by
  have i := ex_is (2 ^ v)
  rw [i.taken F v hv (pow_self v) x hx]
  show (_ || _) = (_ || _)
  rw [res_low hv F x hx, res_high hv F x hx, i.idle _ (fix_free hv F false) x hx, i.idle _ (fix_free hv F true) x hx]
theorem all_one {v : Nat} (hv : v < 8) (F : Nat → Bool) : Eqt (fA (resQ (2 ^ v) 0 F) (resQ (2 ^ v) 255 F)) (allQ (2 ^ v) F) := fun x hx => by
  have i := all_is (2 ^ v)
  rw [i.taken F v hv (pow_self v) x hx]
  show (_ && _) = (_ && _)
  rw [res_low hv F x hx, res_high hv F x hx, i.idle _ (fix_free hv F false) x hx, i.idle _ (fix_free hv F true) x hx]
theorem ex_or (m : Nat) (F G : Nat → Bool) : Eqt (fO (exQ m F) (exQ m G)) (exQ m (fO F G)) := fun x _ => by
  show (_ || _) = _
  rw [Bool.eq_iff_iff, Bool.or_eq_true, exQ_iff, exQ_iff, exQ_iff]
  unfold fO
  constructor
  · rintro (⟨y, a, b, c⟩ | ⟨y, a, b, c⟩)
    · exact ⟨y, a, b, by rw [c]; rfl⟩
    · exact ⟨y, a, b, by rw [c, Bool.or_true]⟩
  · rintro ⟨y, a, b, c⟩
    rcases (Bool.or_eq_true _ _).mp c with c | c
    · exact .inl ⟨y, a, b, c⟩
    · exact .inr ⟨y, a, b, c⟩
theorem all_and (m : Nat) (F G : Nat → Bool) : Eqt (fA (allQ m F) (allQ m G)) (allQ m (fA F G)) := fun x hx => by
  show ((!_) && (!_)) = (!_)
  rw [← Bool.not_or]
  refine congrArg _ ?_
  rw [show (exQ m (fun y => !F y) x || exQ m (fun y => !G y) x) = _ from ex_or m (fun y => !F y) (fun y => !G y) x hx]
  refine (ex_is m).congr _ _ (fun y _ => ?_) x hx
  unfold fO fA
  rw [Bool.not_and]
theorem ex_and (m : Nat) (F G : Nat → Bool) : Eqt (fA (exQ m (fA F G)) (fA (exQ m F) (exQ m G))) (exQ m (fA F G)) := fun x _ => by
  show (_ && (_ && _)) = _
  rw [Bool.eq_iff_iff, Bool.and_eq_true, Bool.and_eq_true, exQ_iff, exQ_iff, exQ_iff]
  constructor
  · exact fun h => h.1
  · rintro ⟨y, a, b, c⟩
    have c' := (Bool.and_eq_true _ _).mp c
    exact ⟨⟨y, a, b, c⟩, ⟨y, a, b, c'.1⟩, y, a, b, c'.2⟩
theorem ex_up (m : Nat) (F : Nat → Bool) : Eqt (fO F (exQ m F)) (exQ m F) := fun x hx => by
  show (_ || _) = _
  rw [Bool.eq_iff_iff, Bool.or_eq_true, exQ_iff]
  exact ⟨fun h => h.elim (fun h => ⟨x, hx, Agr.refl m x, h⟩) id, .inr⟩
theorem all_down (m : Nat) (F : Nat → Bool) : Eqt (fA F (allQ m F)) (allQ m F) := fun x hx => by
  show (_ && (!_)) = (!_)
  have h := ex_up m (fun y => !F y) x hx
  unfold fO at h
  cases c : F x with
  | true => rfl
  | false =>
    have h' : ((!F x) || exQ m (fun y => !F y) x) = exQ m (fun y => !F y) x := h
    rw [c] at h'
    rw [← h']
    rfl
theorem ite_halves {v : Nat} (hv : v < 8) (F : Nat → Bool) : Eqt (fI (Rf.M v) (resQ (2 ^ v) 255 F) (resQ (2 ^ v) 0 F)) F := fun x hx => by
  have s := fixAt_same hx hv
  show (if _ then _ else _) = _
  rw [res_low hv F x hx, res_high hv F x hx, M_bit']
  cases c : x.testBit v with
  | true => rw [c] at s; rw [if_pos rfl]; show F _ = F _; rw [s]
  | false => rw [c] at s; rw [if_neg (by decide)]; show F _ = F _; rw [s]
theorem res_all {n : Nat} (hn : n < 256) (F : Nat → Bool) : Eqt (resQ 255 n F) (fun _ => F n) := fun x hx => by
  show F _ = F _
  rw [show mixA 255 n x = n from num_same (mix_lt hn hx) hn fun j hj => by rw [mix_bit, bit255 hj]; rfl]
theorem agr255 (x y : Nat) : Agr 255 x y := fun j hj h => by rw [bit255 hj] at h; cases h
theorem ex_all (F : Nat → Bool) : Eqt (exQ 255 F) c0 ∨ Eqt (exQ 255 F) c1 := by
  by_cases h : ∃ y, y < 256 ∧ F y = true
  · obtain ⟨y, hy, f⟩ := h
    exact .inr fun x _ => (exQ_iff _ _ _).2 ⟨y, hy, agr255 x y, f⟩
  · refine .inl fun x _ => ?_
    show _ = false
    rw [Bool.eq_false_iff]
    exact fun e => by
      obtain ⟨y, hy, _, f⟩ := (exQ_iff _ _ _).1 e
      exact h ⟨y, hy, f⟩
theorem ex_one_iff (F : Nat → Bool) : Eqt (exQ 255 F) c1 ↔ ¬ Eqt F c0 := by
  constructor
  · intro h e
    obtain ⟨y, hy, _, f⟩ := (exQ_iff _ _ _).1 (h 0 (by omega))
    rw [e y hy] at f
    cases f
  · intro h
    refine (ex_all F).resolve_left fun e => h fun y hy => ?_
    show _ = false
    rw [Bool.eq_false_iff]
    intro f
    have := (exQ_iff 255 F 0).2 ⟨y, hy, agr255 0 y, f⟩
    rw [e 0 (by omega)] at this
    cases this
theorem all_one_iff (F : Nat → Bool) : Eqt (allQ 255 F) c1 ↔ Eqt F c1 := by
  constructor
  · intro h y hy
    have h0 := h 0 (by omega)
    show F y = true
    cases c : F y with
    | true => rfl
    | false =>
      have : exQ 255 (fun y => !F y) 0 = true := (exQ_iff _ _ _).2 ⟨y, hy, agr255 0 y, by rw [c]; rfl⟩
      have h1 : (!exQ 255 (fun y => !F y) 0) = true := h0
      rw [this] at h1
      cases h1
  · intro h x _
    show (!_) = true
    rw [Bool.not_eq_true', Bool.eq_false_iff]
    intro e
    obtain ⟨y, hy, _, f⟩ := (exQ_iff _ _ _).1 e
    rw [h y hy] at f
    cases f
end Go.Proofs.YtdjjelknjojnfaaGreat

namespace Go.Proofs.YtdjjelknjojnfaaGreat
open Go Go.RowKit
open Rf (fixAt fixF)

/-! ## Masks by levels -/
/-- The levels of the first so many variables that a mask has. -/
def blUpto (l : Nat → Nat) (m : Nat) : Nat → Nat
  | 0 => 0
  | v + 1 => if m.testBit v then blUpto l m v ||| 2 ^ l v else blUpto l m v
theorem blUpto_bit (l : Nat → Nat) (m j : Nat) : ∀ k, (blUpto l m k).testBit j = true ↔ ∃ u, u < k ∧ l u = j ∧ m.testBit u = true
  | 0 => ⟨fun h => absurd h (by rw [blUpto, Nat.zero_testBit]; decide), fun ⟨u, h, _⟩ => by omega⟩
  | k + 1 => by
    have ih := blUpto_bit l m j k
    rw [blUpto]
    cases c : m.testBit k with
    | false =>
      rw [if_neg (by decide), ih]
      constructor
      · rintro ⟨u, h, q⟩
        exact ⟨u, by omega, q⟩
      · rintro ⟨u, h, q, r⟩
        refine ⟨u, ?_, q, r⟩
        by_cases e : u = k
        · rw [e, c] at r; cases r
        · omega
    | true =>
      rw [if_pos rfl, Nat.testBit_or, Bool.or_eq_true, ih, Nat.testBit_two_pow]
      constructor
      · rintro (⟨u, h, q⟩ | h)
        · exact ⟨u, by omega, q⟩
        · exact ⟨k, by omega, of_decide_eq_true h, c⟩
      · rintro ⟨u, h, q, r⟩
        by_cases e : u = k
        · exact .inr (decide_eq_true (by rw [← e]; exact q))
        · exact .inl ⟨u, by omega, q, r⟩
theorem blUpto_lt (l : Nat → Nat) (m : Nat) : ∀ k, (∀ u, u < k → l u < 8) → blUpto l m k < 256
  | 0, _ => by rw [blUpto]; omega
  | k + 1, h => by
    have ih := blUpto_lt l m k fun u hu => h u (by omega)
    have p : (2 : Nat) ^ l k < 2 ^ 8 := Nat.pow_lt_pow_right (by omega) (h k (by omega))
    rw [blUpto]
    split
    · exact Nat.or_lt_two_pow (n := 8) ih p
    · exact ih
theorem surj_of_inj {n : Nat} {v : Nat → Nat} (lt : ∀ i, i < n → v i < n) (inj : ∀ i j, i < n → j < n → v i = v j → i = j) {u : Nat} (hu : u < n) : ∃ i, i < n ∧ v i = u := by
  by_cases c : u ∈ (List.range n).map v
  · obtain ⟨i, hi, e⟩ := List.mem_map.1 c
    exact ⟨i, List.mem_range.1 hi, e⟩
  · exfalso
    have nd : ((List.range n).map v).Nodup := nodup_map_on v _ List.nodup_range fun x hx y hy e => inj x y (List.mem_range.1 hx) (List.mem_range.1 hy) e
    have := nodup_le (u :: (List.range n).map v) (List.range n) (List.nodup_cons.2 ⟨c, nd⟩) fun x hx => by
      rcases List.mem_cons.1 hx with rfl | hx
      · exact List.mem_range.2 hu
      · obtain ⟨i, hi, e⟩ := List.mem_map.1 hx
        rw [← e]
        exact List.mem_range.2 (lt i (List.mem_range.1 hi))
    simp at this
    omega
theorem lev_inv {M : Mdl} (o : M.Ok) {l : Nat → Nat} (inv : ∀ i, i < M.n → l (M.v i) = i) {u : Nat} (hu : u < M.n) : l u < M.n ∧ M.v (l u) = u := by
  obtain ⟨i, hi, rfl⟩ := surj_of_inj o.vlt o.vinj hu
  rw [inv i hi]
  exact ⟨hi, rfl⟩
theorem blUpto_by {M : Mdl} (o : M.Ok) {l : Nat → Nat} (inv : ∀ i, i < M.n → l (M.v i) = i) (m : Nat) : ByLev M m (blUpto l m M.n) := by
  have n8 := o.le8
  refine ⟨blUpto_lt l m M.n fun u hu => by have := (lev_inv o inv hu).1; omega, fun j hj => ?_⟩
  rw [Bool.eq_iff_iff, blUpto_bit, Bool.and_eq_true, decide_eq_true_eq]
  constructor
  · rintro ⟨u, hu, e, c⟩
    obtain ⟨h1, h2⟩ := lev_inv o inv hu
    rw [e] at h1 h2
    exact ⟨h1, by rw [h2]; exact c⟩
  · rintro ⟨h1, h2⟩
    exact ⟨M.v j, o.vlt j h1, inv j h1, h2⟩
theorem and_bit8 (m v : Nat) (hm : m < 256) : bits .and .u8 ((m : Int) / 2 ^ v) 1 = (if m.testBit v then 1 else 0) := by
  have h1 : ((m : Int) / 2 ^ v) = ((m / 2 ^ v : Nat) : Int) := by push_cast; rfl
  have h2 : m / 2 ^ v < 256 := Nat.lt_of_le_of_lt (Nat.div_le_self _ _) hm
  rw [h1, show (1 : Int) = ((1 : Nat) : Int) from rfl, u8_and_nat _ _ h2 (by decide), Nat.and_one_is_mod, ← M_bit']
  unfold Rf.M
  have h3 : m / 2 ^ v % 2 < 2 := Nat.mod_lt _ (by decide)
  by_cases h : m / 2 ^ v % 2 = 1
  · simp [h]
  · have h0 : m / 2 ^ v % 2 = 0 := by omega
    simp [h0]
theorem or_none8 (n : Nat) (hn : n < 256) : bits .or .u8 (n : Int) 0 = (n : Int) := by
  rw [show (0 : Int) = ((0 : Nat) : Int) from rfl, u8_or_nat _ _ hn (by decide), Nat.or_zero]
section
variable {w : World} {S : Nat} {F0 : Nat → Prop} {M : Mdl}
set_option maxRecDepth 100000 in
set_option maxHeartbeats 2000000 in
theorem byLevels_any (s : St w S F0 M) (m : Nat) (hm : m < 256) :
    Calls Tryz.prog 125 #[.pointer (some ⟨S, 0, none⟩), .int .u8 (m : Int)] w fun e w' => ∃ o : Nat, e = .returned (.int .u8 (o : Int)) ∧ ByLev M m o ∧ Below w.heap.size w w' := by
  have ok := s.ok
  have n8 := ok.le8
  have K1 := s_order' s
  have KV : Aside (∀ {u : World}, St u S F0 M → Calls Tryz.prog 42 #[.pointer (some ⟨S, 0, none⟩)] u fun e w' => e = .returned (.int .i64 (M.n : Int)) ∧ w' = u) := fun {u} su => s_vars su
  go_enter Tryz.func125, Tryz.ntmps125
  go_wp2_with (first
    | (go_at_call 59; refine K1.mono ?_; clear K1; rintro e w1 ⟨P, l, rfl, o1, inv, b1, p1⟩; have s1 := s.below b1; have K2 := KV.out s1; have invA : Aside (∀ i, i < M.n → l (M.v i) = i) := inv; clear inv p1)
    | (go_at_call 42; refine K2.mono ?_; clear K2; rintro e w1 ⟨rfl, rfl⟩))
  have LV : Aside (∀ u, u < M.n → l u < M.n) := fun u hu => (lev_inv ok invA.out hu).1
  have NN : Aside (M.n ≤ 8) := n8
  have okA : Aside M.Ok := ok
  have O1 : Aside (Od.IsOrd w1 P M.n M.v l) := o1
  have B1 : Aside (Below w.heap.size w w1) := b1
  clear b1 s1 s KV o1 n8 ok
  go_loopg [12, 6, 7] M.n (fun g si sl _sv wr => ∃ v : Nat, v + g = M.n ∧ si = .int .i64 (v : Int) ∧ sl = .int .u8 (blUpto l m v : Int) ∧ Aside (Od.IsOrd wr P M.n M.v l) ∧ Aside (Below w.heap.size w wr))
  case atStart => exact ⟨0, by omega, rfl, rfl, O1, B1⟩
  case round =>
    obtain ⟨v, hv, rfl, rfl, O2, B2⟩ := hrel
    have hV : Aside (v + gk = M.n) := hv
    clear hv O1 B1
    by_cases hvn : v < M.n
    · have hvi : (v : Int) < (M.n : Int) := by omega
      have hl := LV.out v hvn
      have v8i : (v : Int) < 8 := by have := NN.out; omega
      have hmn : min v 8 = v := by have := NN.out; omega
      have l8 : l v < 8 := by have := NN.out; omega
      have bl := blUpto_lt l m v fun u hu => by have := LV.out u (by omega); have := NN.out; omega
      have K : ∀ q, Calls Tryz.prog 85 #[.pointer (some ⟨P, 0, none⟩), .int .i64 (v : Int)] (wr.drewN q) fun e w' => e = .returned (.int .i64 (l v : Int)) ∧ w' = wr.drewN q := fun q => Od.level_in (w := wr.drewN q) (show Od.IsOrd (wr.drewN q) P M.n M.v l from O2.out) NN.out v hvn
      have ha := and_bit8 m v hm
      have hB : Aside (blUpto l m (v + 1) = if m.testBit v then blUpto l m v ||| 2 ^ l v else blUpto l m v) := rfl
      generalize blUpto l m v = B at bl hB
      have h1 := Rf.or_pow8 B (l v) bl l8
      have h1' := Rf.or_pow8' B (l v) bl l8
      have h0 := or_none8 B bl
      clear hvn hl
      cases c : m.testBit v with
      | false =>
        rw [c] at ha hB
        rw [if_neg (by decide)] at ha
        clear h1 h1' bl c
        go_wp2_with fail
        go_quiet ((go_at_call 85; exact Calls.quiet_of_same (K _)))
        go_wp2_with fail
        go_roundg (gk - 1)
        case measure => have := hV.out; omega
        case rel =>
          have := hV.out
          exact ⟨v + 1, by omega, rfl, by rw [hB.out]; rfl, O2.out, ⟨B2.out.os, B2.out.tape, B2.out.output, B2.out.size, B2.out.block⟩⟩
      | true =>
        rw [c] at ha hB
        rw [if_pos rfl] at ha
        clear h0 bl c
        go_wp2_with fail
        go_quiet ((go_at_call 85; exact Calls.quiet_of_same (K _)))
        go_wp2_with fail
        go_roundg (gk - 1)
        case measure => have := hV.out; omega
        case rel =>
          have := hV.out
          exact ⟨v + 1, by omega, rfl, by rw [hB.out]; rfl, O2.out, ⟨B2.out.os, B2.out.tape, B2.out.output, B2.out.size, B2.out.block⟩⟩
    · have ev : v = M.n := by have := hV.out; omega
      have hvi : ¬ (v : Int) < (M.n : Int) := by omega
      have eA : Aside (v = M.n) := ev
      clear ev hvn
      go_wp2_with fail
      go_ret
      refine ⟨_, rfl, ?_, B2.out⟩
      rw [eA.out]
      exact blUpto_by okA.out invA.out m
end
end Go.Proofs.YtdjjelknjojnfaaGreat

namespace Go.Proofs.YtdjjelknjojnfaaGreat
open Go Go.RowKit
open Rf (fixAt fixF)

/-- A walk as a value. -/
def cutV (S o z f : Nat) : Value := .agg #[.pointer (some ⟨S, 0, none⟩), .int .u8 (o : Int), .int .u8 (z : Int), .func (.func f) #[] #[]]
/-- A block that holds one. -/
def IsC (w : World) (g S o z f : Nat) : Prop := w.heap[g]? = some (.cells #[.pointer (some ⟨S, 0, none⟩), .int .u8 (o : Int), .int .u8 (z : Int), .func (.func f) #[] #[]] 176 (0, 0))
/-- What the walk leaves. -/
def LeftQ (S : Nat) (F0 : Nat → Prop) (w : World) (M : Mdl) (k h : Nat) (X : Nat → Bool) (e : Ending) (w' : World) : Prop :=
  ∃ (x : Nat) (er : Int) (M' : Mdl) (F' : Nat → Prop), e = .returned (.tuple #[.int .u32 (x : Int), .int .i64 er]) ∧ ToldQ M k X x er M' ∧ (h < 2 → x = h ∧ er = 0) ∧ St w' S F' M' ∧ Wf F0 F' w w'
def HalfL (S : Nat) (F0 : Nat → Prop) (w : World) (M : Mdl) (L : Nat) (X0 X1 : Nat → Bool) (e : Ending) (w' : World) : Prop :=
  ∃ (p q : Nat) (er : Int) (M' : Mdl) (F' : Nat → Prop), e = .returned (.tuple #[.int .u32 (p : Int), .int .u32 (q : Int), .int .i64 er]) ∧ ((er = 0 ∧ Pr2 M L X0 X1 p q M') ∨ (er = 60 ∧ StuckQ M L M')) ∧ St w' S F' M' ∧ Wf F0 F' w w'
section
variable {w : World} {S : Nat} {F0 : Nat → Prop} {M : Mdl} {g o z f h m nv : Nat} {J : Nat → Bool → Bool → Bool} {Q : (Nat → Bool) → Nat → Bool}
theorem IsC.cells (i : IsC w g S o z f) : w.cell? ⟨g, 0, none⟩ = some (.pointer (some ⟨S, 0, none⟩)) ∧ w.cell? ⟨g, 1, none⟩ = some (.int .u8 (o : Int)) ∧ w.cell? ⟨g, 2, none⟩ = some (.int .u8 (z : Int)) ∧ w.cell? ⟨g, 3, none⟩ = some (.func (.func f) #[] #[]) := by
  unfold IsC at i
  refine ⟨?_, ?_, ?_, ?_⟩ <;> simp [World.cell?, i]
theorem IsC.new (w : World) (S o z f : Nat) : IsC (w.alloc (.cells #[.pointer (some ⟨S, 0, none⟩), .int .u8 (o : Int), .int .u8 (z : Int), .func (.func f) #[] #[]] 176)) w.heap.size S o z f := Go.Deep.blk_alloc_new _ _
theorem IsC.lt (i : IsC w g S o z f) : g < w.heap.size := (Array.getElem?_eq_some_iff.1 i).1
theorem IsC.below {w' : World} (i : IsC w g S o z f) (k : Below w.heap.size w w') : IsC w' g S o z f := (k.block _ i.lt).trans i
theorem IsC.wf {w' : World} {F' : Nat → Prop} (i : IsC w g S o z f) (s : St w S F0 M) (k : Wf F0 F' w w') : IsC w' g S o z f := (k.block _ i.lt (s.row i (by decide))).trans i
/-- What the walk comes to, from a level on. -/
def WalkAt (Q : (Nat → Bool) → Nat → Bool) (S o z f m nv n L : Nat) : Prop := ∀ (w : World) (F0 : Nat → Prop) (M : Mdl) (x : Nat), M.n = n → St w S F0 M → ByLev M m o → ByLev M nv z → M.isNode x → L ≤ M.lev x → Calls Tryz.prog 126 #[cutV S o z f, .int .u32 (x : Int)] w (LeftQ S F0 w M L x (Q (M.tbl x)))
/-- What a joiner comes to. -/
def JoinAt (Q : (Nat → Bool) → Nat → Bool) (S o z f m nv n : Nat) : Prop := ∀ L, L < n → WalkAt Q S o z f m nv n (L + 1) → ∀ (w : World) (F0 : Nat → Prop) (M : Mdl) (h : Nat), M.n = n → St w S F0 M → ByLev M m o → ByLev M nv z → h ∈ M.hs → (M.nd h).1 = L → m.testBit (M.v L) = true → Calls Tryz.prog f #[cutV S o z f, .int .u32 (h : Int)] w (LeftQ S F0 w M L h (Q (M.tbl h)))
theorem lo_any (s : St w S F0 M) (hm : h ∈ M.hs) : Calls Tryz.prog 54 #[.pointer (some ⟨S, 0, none⟩), .int .u32 (h : Int)] w fun e w' => e = .returned (.int .u32 ((M.nd h).2.1 : Int)) ∧ w' = w := by
  have := s_low s h (by have := Mdl.isNode_lt s.ok (.inr hm : M.isNode h); omega)
  rwa [Mdl.lowN_in s.ok hm] at this
theorem hi_any (s : St w S F0 M) (hm : h ∈ M.hs) : Calls Tryz.prog 55 #[.pointer (some ⟨S, 0, none⟩), .int .u32 (h : Int)] w fun e w' => e = .returned (.int .u32 ((M.nd h).2.2 : Int)) ∧ w' = w := by
  have := s_high s h (by have := Mdl.isNode_lt s.ok (.inr hm : M.isNode h); omega)
  rwa [Mdl.highN_in s.ok hm] at this
set_option maxRecDepth 100000 in
set_option maxHeartbeats 2000000 in
theorem halves_any {n L : Nat} (ih : WalkAt Q S o z f m nv n (L + 1)) (en : M.n = n) (s : St w S F0 M) (bo : ByLev M m o) (bz : ByLev M nv z) (hm : h ∈ M.hs) (hL : (M.nd h).1 = L) :
    Calls Tryz.prog 127 #[cutV S o z f, .int .u32 (h : Int)] w (HalfL S F0 w M L (Q (M.tbl (M.nd h).2.1)) (Q (M.tbl (M.nd h).2.2))) := by
  have ok := s.ok
  obtain ⟨la, lA⟩ := ok.lo h hm
  obtain ⟨lb, lB⟩ := ok.hi h hm
  rw [hL] at lA lB
  have Kl : Aside (∀ {u : World}, St u S F0 M → Calls Tryz.prog 54 #[.pointer (some ⟨S, 0, none⟩), .int .u32 (h : Int)] u fun e w' => e = .returned (.int .u32 ((M.nd h).2.1 : Int)) ∧ w' = u) := fun {u} su => lo_any su hm
  have Kh : Aside (∀ {u : World} {F' : Nat → Prop} {M' : Mdl}, Mdl.Grew M M' → St u S F' M' → Calls Tryz.prog 55 #[.pointer (some ⟨S, 0, none⟩), .int .u32 (h : Int)] u fun e w' => e = .returned (.int .u32 ((M.nd h).2.2 : Int)) ∧ w' = u) := fun {u F' M'} gr su => by
    have := hi_any su (gr.keep h hm).1
    rwa [(gr.keep h hm).2] at this
  have W0 : Aside (∀ {u : World}, St u S F0 M → Calls Tryz.prog 126 #[cutV S o z f, .int .u32 ((M.nd h).2.1 : Int)] u (LeftQ S F0 u M (L + 1) (M.nd h).2.1 (Q (M.tbl (M.nd h).2.1)))) := fun {u} su => ih u F0 M _ en su bo bz la lA
  have W1 : Aside (∀ {u : World} {F' : Nat → Prop} {M' : Mdl}, Mdl.Grew M M' → St u S F' M' → Calls Tryz.prog 126 #[cutV S o z f, .int .u32 ((M.nd h).2.2 : Int)] u (LeftQ S F' u M' (L + 1) (M.nd h).2.2 (Q (M.tbl (M.nd h).2.2)))) := fun {u F' M'} gr su => by
    have := ih u F' M' _ (gr.n.trans en) su (bo.grew gr) (bz.grew gr) (gr.isNode lb) (by rw [gr.lev lb]; exact lB)
    rwa [show M'.tbl (M.nd h).2.2 = M.tbl (M.nd h).2.2 from funext fun y => gr.tbl ok lb y] at this
  generalize (M.nd h).2.1 = a at Kl W0
  generalize (M.nd h).2.2 = b at Kh W1
  generalize Q (M.tbl a) = X0 at W0
  generalize Q (M.tbl b) = X1 at W1
  clear ih la lA lb lB bo bz hL hm
  unfold cutV
  unfold cutV at W0 W1
  go_enter Tryz.func127, Tryz.ntmps127
  go_upto_region 1 with fail
  have i4 := IsC.new w S o z f
  have B4 := nb w (.cells #[.pointer (some ⟨S, 0, none⟩), .int .u8 (o : Int), .int .u8 (z : Int), .func (.func f) #[] #[]] 176)
  have s4 := s.below B4
  generalize w.alloc (.cells #[.pointer (some ⟨S, 0, none⟩), .int .u8 (o : Int), .int .u8 (z : Int), .func (.func f) #[] #[]] 176) = w4 at i4 B4 s4 ⊢
  obtain ⟨g, hg⟩ : ∃ g, w.heap.size = g := ⟨_, rfl⟩
  have B4A : Aside (Below w.heap.size w w4) := B4
  rw [hg] at i4 ⊢
  clear hg B4 s
  have C4 := i4.cells
  have i4d : IsC w4.drew g S o z f := i4
  have s4d := s4.drew
  have K1 := Kl.out s4d
  have K2 := W0.out s4d
  go_region_held3 (fun u => u.cell? ⟨g, 0, none⟩ = some (.pointer (some ⟨S, 0, none⟩)) ∧ u.cell? ⟨g, 1, none⟩ = some (.int .u8 (o : Int)) ∧ u.cell? ⟨g, 2, none⟩ = some (.int .u8 (z : Int)) ∧ u.cell? ⟨g, 3, none⟩ = some (.func (.func f) #[] #[])) (first | assumption | exact C4) (first
    | (go_at_call 54; refine K1.mono ?_; clear K1; rintro e w5 ⟨rfl, e5⟩; subst w5)
    | (go_at_call 126; refine K2.mono ?_; clear K2; rintro e w8 ⟨p, er, M8, F8, rfl, t8, c8, s8, b8⟩; have i8 := i4d.wf s4d b8; have C8 := i8.cells))
  have B8 : Aside (Wf F0 F8 w w8) := (Wf.of_below B4A.out.drew F0).trans b8
  clear c8 b8 i4 i4d s4 s4d C4 Kl W0 B4A
  rcases t8 with ⟨rfl, g8⟩ | ⟨rfl, rfl, g8⟩
  rotate_left
  · have t : Aside (StuckQ M L M8) := g8.raise (Nat.le_succ L)
    clear g8 C8 i8 Kh W1
    go_wp2_with fail
    go_ret3
    exact ⟨_, _, _, M8, F8, rfl, .inr ⟨rfl, t.out⟩, s8, B8.out⟩
  · have gA : Aside (GotQ M (L + 1) X0 p M8) := g8
    have i8d : IsC w8.drew g S o z f := i8
    have s8d := s8.drew
    have K1 := Kh.out g8.grew s8d
    have K2 := W1.out g8.grew s8d
    have o8 : Aside M8.Ok := s8.ok
    clear g8 Kh W1
    go_upto_region 4 with fail
    go_region_held3 (fun u => u.cell? ⟨g, 0, none⟩ = some (.pointer (some ⟨S, 0, none⟩)) ∧ u.cell? ⟨g, 1, none⟩ = some (.int .u8 (o : Int)) ∧ u.cell? ⟨g, 2, none⟩ = some (.int .u8 (z : Int)) ∧ u.cell? ⟨g, 3, none⟩ = some (.func (.func f) #[] #[])) (first | assumption | exact C8) (first
      | (go_at_call 55; refine K1.mono ?_; clear K1; rintro e w5 ⟨rfl, e5⟩; subst w5)
      | (go_at_call 126; refine K2.mono ?_; clear K2; rintro e w9 ⟨q, er, M9, F9, rfl, t9, c9, s9, b9⟩; have i9 := i8d.wf s8d b9; have C9 := i9.cells))
    have B9 : Aside (Wf F0 F9 w w9) := (B8.out.trans ((Wf.refl F8 w8).drew)).trans b9
    clear c9 b9 i8 i8d s8 s8d C8 C9 i9 B8
    rcases t9 with ⟨rfl, g9⟩ | ⟨rfl, rfl, g9⟩
    rotate_left
    · have t : Aside (StuckQ M L M9) := StuckQ.high gA.out g9
      clear g9
      go_wp2_with fail
      go_ret3
      exact ⟨_, _, _, M9, F9, rfl, .inr ⟨rfl, t.out⟩, s9, B9.out⟩
    · have t : Aside (Pr2 M L X0 X1 p q M9) := gA.out.pair o8.out g9
      clear g9
      go_wp2_with fail
      go_ret3
      exact ⟨p, q, 0, M9, F9, rfl, .inl ⟨rfl, t.out⟩, s9, B9.out⟩
set_option maxHeartbeats 1000000 in
theorem answer_k {a b c k f : Nat} {R : Nat → Nat → Nat → Option Nat} {op : Bool → Bool → Bool → Bool} (r : IsRule R op) (rl : Rl f R) (hf : ∀ (vs : Array Value) (w : World), (callFunc f vs).run Tryz.prog w = .ok (.enter f vs) w) (s : St w S F0 M) (ha : M.isNode a ∧ k ≤ M.lev a) (hb : M.isNode b ∧ k ≤ M.lev b) (hc : M.isNode c ∧ k ≤ M.lev c) :
    Calls Tryz.prog 44 #[.pointer (some ⟨S, 0, none⟩), arg3 a b c, fv f] w (Left S F0 w M k (ans M op a b c)) := by
  have o := s.ok
  have Ki : Aside (∀ {u : World}, St u S F0 M → ∀ (z : Nat), M.isNode z → Calls Tryz.prog 31 #[.pointer (some ⟨S, 0, none⟩), .int .u32 (z : Int)] u fun e w' => e = .returned (.bool true) ∧ w' = u) := fun {u} su z hz => by
    have := s_is su z (by have := Mdl.isNode_lt o hz; omega)
    rwa [Mdl.nodeB_true hz] at this
  have Kw : Aside (∀ {u : World}, St u S F0 M → Calls Tryz.prog 74 #[.pointer (some ⟨S, 0, none⟩), arg3 a b c, fv f] u (Left S F0 u M k (ans M op a b c))) := fun {u} su => lwalk_any r rl hf _ (Nat.le_refl _) su ha hb hc
  conv in #[Value.pointer (some ⟨S, 0, none⟩), arg3 a b c, fv f] => unfold arg3
  have na := ha.1
  have nb2 := hb.1
  have nc := hc.1
  clear ha hb hc
  go_enter Tryz.func44, Tryz.ntmps44
  go_upto_region 1 with fail
  have i4 := IsA.new w a b c
  have B4 := nb w (.cells #[.int .u32 (a : Int), .int .u32 (b : Int), .int .u32 (c : Int)] 93)
  have s4 := s.below B4
  generalize w.alloc (.cells #[.int .u32 (a : Int), .int .u32 (b : Int), .int .u32 (c : Int)] 93) = w4 at i4 B4 s4 ⊢
  have B4A : Aside (Below w.heap.size w w4) := B4
  generalize w.heap.size = g at i4 ⊢
  obtain ⟨x0, x1, x2⟩ := i4.cells
  have K1 := fun z hz => Ki.out s4 z hz
  have K2 := Kw.out s4
  unfold arg3 at K2
  clear Ki Kw B4 s i4
  go_wp2_with (first
    | (go_at_call 31; refine (K1 _ (by assumption)).mono ?_; rintro e w5 ⟨rfl, e5⟩; subst w5)
    | (go_at_call 74; refine K2.mono ?_; clear K2; rintro e w8 ⟨p, er, M8, F8, rfl, t8, s8, b8⟩; have t8A : Aside (Told M k (ans M op a b c) p er M8) := t8; clear t8))
  go_ret2
  exact ⟨p, er, M8, F8, rfl, t8A.out, s8, (Wf.of_below B4A.out F0).trans b8⟩
theorem or_k {a b k : Nat} (s : St w S F0 M) (ha : M.isNode a ∧ k ≤ M.lev a) (hb : M.isNode b ∧ k ≤ M.lev b) :
    Calls Tryz.prog 13 #[.pointer (some ⟨S, 0, none⟩), .int .u32 (a : Int), .int .u32 (b : Int)] w (Left S F0 w M k (ans M oOr a b 0)) := by
  have K := answer_k (a := a) (b := b) (c := 0) rule_or or_rl call_or s ha hb ⟨.inl (by omega), by rw [Mdl.lev_const (by omega)]; exact Nat.le_trans ha.2 (Mdl.lev_le s.ok ha.1)⟩
  unfold arg3 fv at K
  go_enter Tryz.func13, Tryz.ntmps13
  go_wp2_with (first
    | (go_at_call 44; refine K.mono ?_; clear K; rintro e w8 ⟨p, er, M8, F8, rfl, t8, s8, b8⟩; have t8A : Aside (Told M k (ans M oOr a b 0) p er M8) := t8; clear t8))
  go_ret2
  exact ⟨p, er, M8, F8, rfl, t8A.out, s8, b8⟩
theorem and_k {a b k : Nat} (s : St w S F0 M) (ha : M.isNode a ∧ k ≤ M.lev a) (hb : M.isNode b ∧ k ≤ M.lev b) :
    Calls Tryz.prog 33 #[.pointer (some ⟨S, 0, none⟩), .int .u32 (a : Int), .int .u32 (b : Int)] w (Left S F0 w M k (ans M oAnd a b 0)) := by
  have K := answer_k (a := a) (b := b) (c := 0) rule_and and_rl call_and s ha hb ⟨.inl (by omega), by rw [Mdl.lev_const (by omega)]; exact Nat.le_trans ha.2 (Mdl.lev_le s.ok ha.1)⟩
  unfold arg3 fv at K
  go_enter Tryz.func33, Tryz.ntmps33
  go_wp2_with (first
    | (go_at_call 44; refine K.mono ?_; clear K; rintro e w8 ⟨p, er, M8, F8, rfl, t8, s8, b8⟩; have t8A : Aside (Told M k (ans M oAnd a b 0) p er M8) := t8; clear t8))
  go_ret2
  exact ⟨p, er, M8, F8, rfl, t8A.out, s8, b8⟩
set_option maxRecDepth 100000 in
set_option maxHeartbeats 2000000 in
theorem either_join (S o z m nv n : Nat) : JoinAt (exQ m) S o z 108 m nv n := by
  intro L hLn ih w F0 M h en s bo bz hm hL hbit
  have ok := s.ok
  have hLM : L < M.n := by omega
  have KH := halves_any ih en (s.below (nb w (.cells #[.pointer (some ⟨S, 0, none⟩), .int .u8 (o : Int), .int .u8 (z : Int), .func (.func 108) #[] #[]] 176))) bo bz hm hL
  have e : Aside (Eqt (exQ m (M.tbl h)) (fun y => jEx (M.v L) (exQ m (M.tbl (M.nd h).2.1) y) (exQ m (M.tbl (M.nd h).2.2) y))) := (ex_is m).at ok hm hL hbit
  have h2 : Aside (¬ h < 2) := by have := (ok.range h hm).1; show ¬ _; omega
  generalize exQ m (M.tbl (M.nd h).2.1) = X0 at KH e
  generalize exQ m (M.tbl (M.nd h).2.2) = X1 at KH e
  generalize exQ m (M.tbl h) = X at e
  clear ih bo bz hm hL hbit hLM
  unfold cutV
  unfold cutV at KH
  go_enter Tryz.func108, Tryz.ntmps108
  go_upto_region 1 with fail
  have i4 := IsC.new w S o z 108
  have B4 := nb w (.cells #[.pointer (some ⟨S, 0, none⟩), .int .u8 (o : Int), .int .u8 (z : Int), .func (.func 108) #[] #[]] 176)
  have s4 := s.below B4
  generalize w.alloc (.cells #[.pointer (some ⟨S, 0, none⟩), .int .u8 (o : Int), .int .u8 (z : Int), .func (.func 108) #[] #[]] 176) = w4 at i4 B4 s4 KH ⊢
  obtain ⟨g, hg⟩ : ∃ g, w.heap.size = g := ⟨_, rfl⟩
  have B4A : Aside (Below w.heap.size w w4) := B4
  rw [hg] at i4 ⊢
  clear hg B4 s
  obtain ⟨C0, C1, C2, C3⟩ := i4.cells
  go_upto_region 2 with (first
    | (go_at_call 127; refine KH.mono ?_; clear KH; rintro e w8 ⟨p, q, er, M8, F8, rfl, t8, s8, b8⟩))
  have i8 := i4.wf s4 b8
  have B8 : Aside (Wf F0 F8 w w8) := (Wf.of_below B4A.out F0).trans b8
  clear C0 C1 C2 C3 i4 s4 b8 B4A
  rcases t8 with ⟨rfl, g8⟩ | ⟨rfl, g8⟩
  rotate_left
  · have t : Aside (StuckQ M L M8) := g8
    clear g8 i8
    go_wp2_with fail
    go_ret2
    exact ⟨0, 60, M8, F8, rfl, .inr ⟨rfl, rfl, t.out⟩, fun c => absurd c h2.out, s8, B8.out⟩
  · have K := or_k (k := L + 1) s8 ⟨g8.lo.1, g8.lo.2.1⟩ ⟨g8.hi.1, g8.hi.2.1⟩
    have gA : Aside (Pr2 M L X0 X1 p q M8) := g8
    obtain ⟨C0, C1, C2, C3⟩ := i8.cells
    clear g8
    go_wp2_with (first
      | (go_at_call 13; refine K.mono ?_; clear K; rintro e w9 ⟨x, er, M9, F9, rfl, t9, s9, b9⟩; have t9A : Aside (Told M8 (L + 1) (ans M8 oOr p q 0) x er M9) := t9; clear t9))
    go_ret2
    exact ⟨x, er, M9, F9, rfl, gA.out.taken (J := jEx (M.v L)) (fun _ _ _ => rfl) e.out t9A.out, fun c => absurd c h2.out, s9, B8.out.trans b9⟩
set_option maxRecDepth 100000 in
set_option maxHeartbeats 2000000 in
theorem kept_any {n L : Nat} (i : IsQ m J Q) (ih : WalkAt Q S o z f m nv n (L + 1)) (en : M.n = n) (s : St w S F0 M) (bo : ByLev M m o) (bz : ByLev M nv z) (hm : h ∈ M.hs) (hL : (M.nd h).1 = L) (hbit : m.testBit (M.v L) = false) :
    Calls Tryz.prog 144 #[cutV S o z f, .int .u32 (h : Int)] w (LeftQ S F0 w M L h (Q (M.tbl h))) := by
  have ok := s.ok
  have hLM : L < M.n := by rw [← hL]; exact ok.lv h hm
  have KH := halves_any ih en (s.below (nb w (.cells #[.pointer (some ⟨S, 0, none⟩), .int .u8 (o : Int), .int .u8 (z : Int), .func (.func f) #[] #[]] 176))) bo bz hm hL
  obtain ⟨e0, e1⟩ := i.by ok hm hL hbit
  have e0A : Aside (Eqt (Q (M.tbl (M.nd h).2.1)) (fixF (Q (M.tbl h)) (M.v L) false)) := e0
  have e1A : Aside (Eqt (Q (M.tbl (M.nd h).2.2)) (fixF (Q (M.tbl h)) (M.v L) true)) := e1
  have h2 : Aside (¬ h < 2) := by have := (ok.range h hm).1; show ¬ _; omega
  have KL : Aside (∀ {u : World} {F' : Nat → Prop} {M' : Mdl}, Mdl.Grew M M' → St u S F' M' → Calls Tryz.prog 53 #[.pointer (some ⟨S, 0, none⟩), .int .u32 (h : Int)] u fun e w' => e = .returned (.int .i64 (L : Int)) ∧ w' = u) := fun {u F' M'} gr su => by
    have := lv_any su (gr.isNode (.inr hm : M.isNode h))
    rwa [gr.lev (.inr hm : M.isNode h), Mdl.lev_in ok hm, hL] at this
  generalize Q (M.tbl (M.nd h).2.1) = X0 at KH e0A
  generalize Q (M.tbl (M.nd h).2.2) = X1 at KH e1A
  generalize Q (M.tbl h) = X at e0A e1A
  clear ih bo bz hm hL hbit e0 e1
  unfold cutV
  unfold cutV at KH
  go_enter Tryz.func144, Tryz.ntmps144
  go_upto_region 1 with fail
  have i4 := IsC.new w S o z f
  have B4 := nb w (.cells #[.pointer (some ⟨S, 0, none⟩), .int .u8 (o : Int), .int .u8 (z : Int), .func (.func f) #[] #[]] 176)
  have s4 := s.below B4
  generalize w.alloc (.cells #[.pointer (some ⟨S, 0, none⟩), .int .u8 (o : Int), .int .u8 (z : Int), .func (.func f) #[] #[]] 176) = w4 at i4 B4 s4 KH ⊢
  obtain ⟨g, hg⟩ : ∃ g, w.heap.size = g := ⟨_, rfl⟩
  have B4A : Aside (Below w.heap.size w w4) := B4
  rw [hg] at i4 ⊢
  clear hg B4 s
  obtain ⟨C0, C1, C2, C3⟩ := i4.cells
  go_upto_region 2 with (first
    | (go_at_call 127; refine KH.mono ?_; clear KH; rintro e w8 ⟨p, q, er, M8, F8, rfl, t8, s8, b8⟩))
  have i8 := i4.wf s4 b8
  have B8 : Aside (Wf F0 F8 w w8) := (Wf.of_below B4A.out F0).trans b8
  clear C0 C1 C2 C3 i4 s4 b8 B4A
  rcases t8 with ⟨rfl, g8⟩ | ⟨rfl, g8⟩
  rotate_left
  · have t : Aside (StuckQ M L M8) := g8
    clear g8 i8
    go_wp2_with fail
    go_ret2
    exact ⟨0, 60, M8, F8, rfl, .inr ⟨rfl, rfl, t.out⟩, fun c => absurd c h2.out, s8, B8.out⟩
  · have C8 := i8.cells
    have g8' := g8.like e0A.out e1A.out
    have K1 := KL.out g8.grew s8.drew
    have o8 := s8.ok
    have s8d := s8.drew
    clear KL g8 e0A e1A
    go_upto_region 4 with fail
    by_cases hpq : p = q
    · subst hpq
      have t : Aside (GotQ M L X p M8) := g8'.same o8 hLM
      have Km := s_mk_same s8d L p g8'.lo.2.1 g8'.lo.1
      clear g8'
      go_region_held3 (fun u => u.cell? ⟨g, 0, none⟩ = some (.pointer (some ⟨S, 0, none⟩)) ∧ u.cell? ⟨g, 1, none⟩ = some (.int .u8 (o : Int)) ∧ u.cell? ⟨g, 2, none⟩ = some (.int .u8 (z : Int)) ∧ u.cell? ⟨g, 3, none⟩ = some (.func (.func f) #[] #[])) (first | assumption | exact C8) (first
        | (go_at_call 53; refine K1.mono ?_; clear K1; rintro e w5 ⟨rfl, e5⟩; subst w5)
        | (go_at_call 78; refine Km.mono ?_; clear Km; rintro e w9 ⟨rfl, e9⟩; subst w9))
      go_wp2_with fail
      go_ret2
      exact ⟨p, 0, M8, F8, rfl, .inl ⟨rfl, t.out⟩, fun c => absurd c h2.out, s8d, B8.out.drew⟩
    · have fit := g8'.fits hLM hpq
      by_cases hth : ∃ y ∈ M8.hs, M8.nd y = (L, p, q)
      · obtain ⟨y, ym, ye⟩ := hth
        have t : Aside (GotQ M L X y M8) := g8'.join o8 hLM hpq o8 (.inl ⟨ym, ye, rfl⟩)
        have Km := s_mk_there s8d L p q fit y ym ye
        clear ye hpq fit g8'
        go_region_held3 (fun u => u.cell? ⟨g, 0, none⟩ = some (.pointer (some ⟨S, 0, none⟩)) ∧ u.cell? ⟨g, 1, none⟩ = some (.int .u8 (o : Int)) ∧ u.cell? ⟨g, 2, none⟩ = some (.int .u8 (z : Int)) ∧ u.cell? ⟨g, 3, none⟩ = some (.func (.func f) #[] #[])) (first | assumption | exact C8) (first
          | (go_at_call 53; refine K1.mono ?_; clear K1; rintro e w5 ⟨rfl, e5⟩; subst w5)
          | (go_at_call 78; refine Km.mono ?_; clear Km; rintro e w9 ⟨rfl, F9, s9, b9⟩; have i9 := IsC.wf (show IsC w8.drew g S o z f from i8) s8d b9; have C9 := i9.cells))
        go_wp2_with fail
        go_ret2
        exact ⟨y, 0, M8, F9, rfl, .inl ⟨rfl, t.out⟩, fun c => absurd c h2.out, s9, B8.out.drew.trans b9⟩
      · have no : ∀ y ∈ M8.hs, M8.nd y ≠ (L, p, q) := fun y ym ye => hth ⟨y, ym, ye⟩
        clear hth
        by_cases full : M8.hs.length = M8.room
        · have t : Aside (StuckQ M L M8) := g8'.full full
          have Km := s_mk_full s8d L p q fit no full
          clear hpq fit no full g8'
          go_region_held3 (fun u => u.cell? ⟨g, 0, none⟩ = some (.pointer (some ⟨S, 0, none⟩)) ∧ u.cell? ⟨g, 1, none⟩ = some (.int .u8 (o : Int)) ∧ u.cell? ⟨g, 2, none⟩ = some (.int .u8 (z : Int)) ∧ u.cell? ⟨g, 3, none⟩ = some (.func (.func f) #[] #[])) (first | assumption | exact C8) (first
            | (go_at_call 53; refine K1.mono ?_; clear K1; rintro e w5 ⟨rfl, e5⟩; subst w5)
            | (go_at_call 78; refine Km.mono ?_; clear Km; rintro e w9 ⟨rfl, F9, s9, b9⟩; have i9 := IsC.wf (show IsC w8.drew g S o z f from i8) s8d b9; have C9 := i9.cells))
          go_wp2_with fail
          go_ret2
          exact ⟨0, 60, M8, F9, rfl, .inr ⟨rfl, rfl, t.out⟩, fun c => absurd c h2.out, s9, B8.out.drew.trans b9⟩
        · have lt : M8.hs.length < M8.room := by have := o8.len; omega
          have t : Aside (∀ {y : Nat} {M9 : Mdl}, M9.Ok → M8.Adds y (L, p, q) M9 → GotQ M L X y M9) := fun {y M9} o9 ad => g8'.join o8 hLM hpq o9 (.inr ad)
          have Km := s_mk_new s8d L p q fit no lt
          clear hpq fit no full lt g8'
          go_region_held3 (fun u => u.cell? ⟨g, 0, none⟩ = some (.pointer (some ⟨S, 0, none⟩)) ∧ u.cell? ⟨g, 1, none⟩ = some (.int .u8 (o : Int)) ∧ u.cell? ⟨g, 2, none⟩ = some (.int .u8 (z : Int)) ∧ u.cell? ⟨g, 3, none⟩ = some (.func (.func f) #[] #[])) (first | assumption | exact C8) (first
            | (go_at_call 53; refine K1.mono ?_; clear K1; rintro e w5 ⟨rfl, e5⟩; subst w5)
            | (go_at_call 78; refine Km.mono ?_; clear Km; rintro e w9 ⟨y, rfl, F9, M9, ad9, s9, b9, y9⟩; have adA : Aside (M8.Adds y (L, p, q) M9) := ad9; clear ad9 y9; have i9 := IsC.wf (show IsC w8.drew g S o z f from i8) s8d b9; have C9 := i9.cells))
          go_wp2_with fail
          go_ret2
          exact ⟨y, 0, M9, F9, rfl, .inl ⟨rfl, t.out s9.ok adA.out⟩, fun c => absurd c h2.out, s9, B8.out.drew.trans b9⟩
set_option maxRecDepth 100000 in
set_option maxHeartbeats 2000000 in
theorem walkq_step {n L : Nat} (i : IsQ m J Q) (hf : ∀ (vs : Array Value) (w : World), (callFunc f vs).run Tryz.prog w = .ok (.enter f vs) w) (j : JoinAt Q S o z f m nv n) (ih : ∀ l, L ≤ l → l < n → WalkAt Q S o z f m nv n (l + 1)) : WalkAt Q S o z f m nv n L := by
  intro w F0 M h en s bo bz hh hL
  have ok := s.ok
  have n8 := ok.le8
  have ln := Mdl.lev_le ok hh
  have KL : Aside (∀ {u : World}, St u S F0 M → Calls Tryz.prog 53 #[.pointer (some ⟨S, 0, none⟩), .int .u32 (h : Int)] u fun e w' => e = .returned (.int .i64 (M.lev h : Int)) ∧ w' = u) := fun {u} su => lv_any su hh
  have hdiv : (o : Int) / 2 ^ (M.lev h) = ((o / 2 ^ (M.lev h) : Nat) : Int) := by push_cast; rfl
  have hmn : min (M.lev h) 8 = M.lev h := by omega
  have l8 : (M.lev h : Int) ≤ 8 := by omega
  by_cases c0 : o / 2 ^ (M.lev h) = 0
  · have t : Aside (GotQ M L (Q (M.tbl h)) h M) := GotQ.here hh hL (bo.idle ok i hh (Nat.le_refl _) c0)
    rw [c0] at hdiv
    have hd0 : (o : Int) / 2 ^ (M.lev h) = 0 := hdiv
    generalize M.lev h = l at KL hmn l8 hd0
    clear hdiv c0 hL ln ih j bo bz
    unfold cutV
    go_enter Tryz.func126, Tryz.ntmps126
    go_upto_region 1 with fail
    have i4 := IsC.new w S o z f
    have B4 := nb w (.cells #[.pointer (some ⟨S, 0, none⟩), .int .u8 (o : Int), .int .u8 (z : Int), .func (.func f) #[] #[]] 176)
    have s4 := s.below B4
    generalize w.alloc (.cells #[.pointer (some ⟨S, 0, none⟩), .int .u8 (o : Int), .int .u8 (z : Int), .func (.func f) #[] #[]] 176) = w4 at i4 B4 s4 ⊢
    have B4A : Aside (Below w.heap.size w w4) := B4
    generalize w.heap.size = g at i4 ⊢
    obtain ⟨C0, C1, C2, C3⟩ := i4.cells
    have K1 := KL.out s4
    clear KL B4 s
    go_wp2_with (first
      | (go_at_call 53; refine K1.mono ?_; clear K1; rintro e w5 ⟨rfl, e5⟩; subst w5))
    go_ret2
    exact ⟨h, 0, M, F0, rfl, .inl ⟨rfl, t.out⟩, fun _ => ⟨rfl, rfl⟩, s4, Wf.of_below B4A.out F0⟩
  · have lt : M.lev h < M.n := by
      refine Nat.lt_of_le_of_ne ln fun e => c0 ?_
      rw [e]
      refine Nat.div_eq_of_lt (Nat.lt_pow_two_of_testBit _ fun k hk => ?_)
      by_cases k8 : k < 8
      · rw [bo.2 k k8, decide_eq_false (by omega), Bool.false_and]
      · exact Nat.testBit_lt_two_pow (Nat.lt_of_lt_of_le bo.1 (Nat.pow_le_pow_right (n := 2) (i := 8) (by omega) (by omega)))
    have hm := Mdl.inner_of_lev hh lt
    have hl := (Mdl.lev_in ok hm).symm
    have hd0 : ((o : Int) / 2 ^ (M.lev h) == 0) = false := by
      rw [hdiv]
      exact beq_eq_false_iff_ne.2 fun h => c0 (Int.ofNat.inj h)
    have hd1 : ¬ (o : Int) / 2 ^ (M.lev h) = 0 := by rw [hdiv]; exact fun h => c0 (Int.ofNat.inj h)
    have hb := and_bit8 o (M.lev h) bo.1
    rw [bo.at ok lt] at hb
    have jA : Aside (m.testBit (M.v (M.lev h)) = true → ∀ {u : World}, St u S F0 M → Calls Tryz.prog f #[cutV S o z f, .int .u32 (h : Int)] u (LeftQ S F0 u M (M.lev h) h (Q (M.tbl h)))) := fun c {u} su => j (M.lev h) (by omega) (ih _ hL (by omega)) u F0 M h en su bo bz hm hl c
    have kA : Aside (m.testBit (M.v (M.lev h)) = false → ∀ {u : World}, St u S F0 M → Calls Tryz.prog 144 #[cutV S o z f, .int .u32 (h : Int)] u (LeftQ S F0 u M (M.lev h) h (Q (M.tbl h)))) := fun c {u} su => kept_any i (ih _ hL (by omega)) en su bo bz hm hl c
    generalize m.testBit (M.v (M.lev h)) = c at hb jA kA
    have hLA : Aside (L ≤ M.lev h) := hL
    generalize M.lev h = l at KL hmn l8 hd0 hd1 hb jA kA hLA
    clear hdiv c0 hL ln ih j bo bz hl lt hm
    unfold cutV at jA kA ⊢
    go_enter Tryz.func126, Tryz.ntmps126
    go_upto_region 1 with fail
    have i4 := IsC.new w S o z f
    have B4 := nb w (.cells #[.pointer (some ⟨S, 0, none⟩), .int .u8 (o : Int), .int .u8 (z : Int), .func (.func f) #[] #[]] 176)
    have s4 := s.below B4
    generalize w.alloc (.cells #[.pointer (some ⟨S, 0, none⟩), .int .u8 (o : Int), .int .u8 (z : Int), .func (.func f) #[] #[]] 176) = w4 at i4 B4 s4 ⊢
    have B4A : Aside (Below w.heap.size w w4) := B4
    generalize w.heap.size = g at i4 ⊢
    obtain ⟨C0, C1, C2, C3⟩ := i4.cells
    have K1 := KL.out s4
    clear KL B4 s
    cases c with
    | true =>
      rw [if_pos rfl] at hb
      have K2 := jA.out rfl s4
      clear jA kA
      go_wp2_with (first
        | (go_at_call 53; refine K1.mono ?_; clear K1; rintro e w5 ⟨rfl, e5⟩; subst w5)
        | (guard_target =~ Calls Tryz.prog f _ _ _; refine K2.mono ?_; clear K2; rintro e w8 ⟨p, er, M8, F8, rfl, t8, c8, s8, b8⟩; have tA : Aside (ToldQ M L (Q (M.tbl h)) p er M8) := t8.raise hLA.out; have cA : Aside (h < 2 → p = h ∧ er = 0) := c8; clear t8 c8))
      go_ret2
      exact ⟨p, er, M8, F8, rfl, tA.out, cA.out, s8, (Wf.of_below B4A.out F0).trans b8⟩
    | false =>
      rw [if_neg (by decide)] at hb
      have K2 := kA.out rfl s4
      clear jA kA
      go_wp2_with (first
        | (go_at_call 53; refine K1.mono ?_; clear K1; rintro e w5 ⟨rfl, e5⟩; subst w5)
        | (go_at_call 144; refine K2.mono ?_; clear K2; rintro e w8 ⟨p, er, M8, F8, rfl, t8, c8, s8, b8⟩; have tA : Aside (ToldQ M L (Q (M.tbl h)) p er M8) := t8.raise hLA.out; have cA : Aside (h < 2 → p = h ∧ er = 0) := c8; clear t8 c8))
      go_ret2
      exact ⟨p, er, M8, F8, rfl, tA.out, cA.out, s8, (Wf.of_below B4A.out F0).trans b8⟩
theorem walkq_any {n : Nat} (i : IsQ m J Q) (hf : ∀ (vs : Array Value) (w : World), (callFunc f vs).run Tryz.prog w = .ok (.enter f vs) w) (j : JoinAt Q S o z f m nv n) : ∀ d L, n - L ≤ d → WalkAt Q S o z f m nv n L
  | 0, _, hd => walkq_step i hf j fun l h1 h2 => by omega
  | d + 1, _, hd => walkq_step i hf j fun l h1 h2 => walkq_any i hf j d (l + 1) (by omega)
end
end Go.Proofs.YtdjjelknjojnfaaGreat

namespace Go.Proofs.YtdjjelknjojnfaaGreat
open Go Go.RowKit
open Rf (fixAt fixF)
attribute [local go_sem] Ch.run_store_func

section
variable {w : World} {S : Nat} {F0 : Nat → Prop} {M : Mdl} {a f m nv : Nat} {J : Nat → Bool → Bool → Bool} {Q : (Nat → Bool) → Nat → Bool}
theorem mask_in {n : Nat} (n8 : n ≤ 8) (hm : m < 2 ^ n) : (m : Int) / 2 ^ n = 0 ∧ m < 256 := by
  have p : (2 : Nat) ^ n ≤ 2 ^ 8 := Nat.pow_le_pow_right (by omega) n8
  refine ⟨?_, by omega⟩
  have : (m : Int) / 2 ^ n = ((m / 2 ^ n : Nat) : Int) := by push_cast; rfl
  rw [this, Nat.div_eq_of_lt hm]
  rfl
theorem mask_out {n : Nat} (hm : 2 ^ n ≤ m) : ¬ (m : Int) / 2 ^ n = 0 := by
  have : (m : Int) / 2 ^ n = ((m / 2 ^ n : Nat) : Int) := by push_cast; rfl
  rw [this]
  intro h
  have h0 : m / 2 ^ n = 0 := Int.ofNat.inj h
  have p : 0 < 2 ^ n := Nat.two_pow_pos n
  have := (Nat.div_eq_zero_iff.1 h0).resolve_left (by omega)
  omega
set_option maxRecDepth 100000 in
set_option maxHeartbeats 2000000 in
theorem answerq_any (i : IsQ m J Q) (hf : ∀ (vs : Array Value) (w : World), (callFunc f vs).run Tryz.prog w = .ok (.enter f vs) w) (j : ∀ o z, JoinAt Q S o z f m nv M.n) (s : St w S F0 M) (ha : M.isNode a) (hm : m < 2 ^ M.n) (hv : nv < 256) {L : Nat} (hL : L ≤ M.lev a) :
    Calls Tryz.prog 107 #[.pointer (some ⟨S, 0, none⟩), .int .u32 (a : Int), .int .u8 (m : Int), .int .u8 (nv : Int), .func (.func f) #[] #[]] w (LeftQ S F0 w M L a (Q (M.tbl a))) := by
  have ok := s.ok
  have n8 := ok.le8
  obtain ⟨m0, m8⟩ := mask_in n8 hm
  have K1 := s_is s a (by have := Mdl.isNode_lt ok ha; omega)
  rw [Mdl.nodeB_true ha] at K1
  have K2 := s_vars s
  have KB := byLevels_any s m m8
  have KB2 : Aside (∀ {u : World}, St u S F0 M → Calls Tryz.prog 125 #[.pointer (some ⟨S, 0, none⟩), .int .u8 (nv : Int)] u fun e w' => ∃ o : Nat, e = .returned (.int .u8 (o : Int)) ∧ ByLev M nv o ∧ Below u.heap.size u w') := fun {u} su => byLevels_any su nv hv
  have KW : Aside (∀ {u : World} {o z : Nat}, St u S F0 M → ByLev M m o → ByLev M nv z → Calls Tryz.prog 126 #[cutV S o z f, .int .u32 (a : Int)] u (LeftQ S F0 u M L a (Q (M.tbl a)))) := fun {u o z} su bo bz => walkq_any i hf (j o z) _ L (Nat.sub_le _ _) u F0 M a rfl su bo bz ha hL
  unfold cutV at KW
  have hmn : min M.n 8 = M.n := by omega
  have n8i : (M.n : Int) ≤ 8 := by omega
  clear ha hm n8 i j hL
  go_enter Tryz.func107, Tryz.ntmps107
  go_upto_region 6 with (first
    | (go_at_call 31; refine K1.mono ?_; clear K1; rintro e w ⟨rfl, rfl⟩)
    | (go_at_call 42; refine K2.mono ?_; clear K2; rintro e w ⟨rfl, rfl⟩)
    | (go_at_call 125; refine KB.mono ?_; clear KB; rintro e w1 ⟨o, rfl, bo, b1⟩; have s1 := s.below b1; have KC := KB2.out s1; have boA : Aside (ByLev M m o) := bo; clear bo)
    | (go_at_call 125; refine KC.mono ?_; clear KC; rintro e w2 ⟨z, rfl, bz, b2⟩; have s2 := s1.below b2; have bzA : Aside (ByLev M nv z) := bz; clear bz))
  have i4 := IsC.new w2 S o z f
  have B4 := nb w2 (.cells #[.pointer (some ⟨S, 0, none⟩), .int .u8 (o : Int), .int .u8 (z : Int), .func (.func f) #[] #[]] 176)
  have s4 := s2.below B4
  have K5 := KW.out s4 boA.out bzA.out
  have B4A : Aside (Below w.heap.size w (w2.alloc (.cells #[.pointer (some ⟨S, 0, none⟩), .int .u8 (o : Int), .int .u8 (z : Int), .func (.func f) #[] #[]] 176))) := Rf.below_far (Rf.below_far b1 b2) B4
  generalize w2.alloc (.cells #[.pointer (some ⟨S, 0, none⟩), .int .u8 (o : Int), .int .u8 (z : Int), .func (.func f) #[] #[]] 176) = w4 at i4 s4 K5 B4A ⊢
  generalize w2.heap.size = g at i4 ⊢
  obtain ⟨C0, C1, C2, C3⟩ := i4.cells
  clear KW KB2 B4 s1 s2 b1 b2
  go_wp2_with (first
    | (go_at_call 126; refine K5.mono ?_; clear K5; rintro e w8 ⟨p, er, M8, F8, rfl, t8, c8, s8, b8⟩; have tA : Aside (ToldQ M L (Q (M.tbl a)) p er M8) := t8; have cA : Aside (a < 2 → p = a ∧ er = 0) := c8; clear t8 c8))
  go_ret2
  exact ⟨p, er, M8, F8, rfl, tA.out, cA.out, s8, (Wf.of_below B4A.out F0).trans b8⟩
set_option maxHeartbeats 1000000 in
theorem answerq_node (x y : Int) (fn : Value) (s : St w S F0 M) (ha : a < 4294967296) (no : ¬ M.isNode a) :
    Calls Tryz.prog 107 #[.pointer (some ⟨S, 0, none⟩), .int .u32 (a : Int), .int .u8 x, .int .u8 y, fn] w fun e w' => e = .returned (.tuple #[.int .u32 0, .int .i64 101]) ∧ w' = w := by
  have K1 := s_is s a ha
  rw [Mdl.nodeB_false no] at K1
  go_enter Tryz.func107, Tryz.ntmps107
  go_wp2_with (first
    | (go_at_call 31; refine K1.mono ?_; clear K1; rintro e w ⟨rfl, rfl⟩))
  go_ret2
  exact ⟨rfl, rfl⟩
set_option maxHeartbeats 1000000 in
theorem answerq_var (y : Int) (fn : Value) (s : St w S F0 M) (ha : M.isNode a) (hm : 2 ^ M.n ≤ m) :
    Calls Tryz.prog 107 #[.pointer (some ⟨S, 0, none⟩), .int .u32 (a : Int), .int .u8 (m : Int), .int .u8 y, fn] w fun e w' => e = .returned (.tuple #[.int .u32 0, .int .i64 40]) ∧ w' = w := by
  have ok := s.ok
  have n8 := ok.le8
  have m0 := mask_out hm
  have K1 := s_is s a (by have := Mdl.isNode_lt ok ha; omega)
  rw [Mdl.nodeB_true ha] at K1
  have K2 := s_vars s
  have hmn : min M.n 8 = M.n := by omega
  have n8i : (M.n : Int) ≤ 8 := by omega
  clear ha hm n8
  go_enter Tryz.func107, Tryz.ntmps107
  go_wp2_with (first
    | (go_at_call 31; refine K1.mono ?_; clear K1; rintro e w ⟨rfl, rfl⟩)
    | (go_at_call 42; refine K2.mono ?_; clear K2; rintro e w ⟨rfl, rfl⟩))
  go_ret2
  exact ⟨rfl, rfl⟩
theorem call_either (vs : Array Value) (w : World) : (callFunc 108 vs).run Tryz.prog w = .ok (.enter 108 vs) w := by
  have h := Tryz.func108
  go_simp
theorem exq_opL (s : St w S F0 M) (ha : M.isNode a) (hm : m < 2 ^ M.n) {L : Nat} (hL : L ≤ M.lev a) :
    Calls Tryz.prog 96 #[.pointer (some ⟨S, 0, none⟩), .int .u32 (a : Int), .int .u8 (m : Int)] w (LeftQ S F0 w M L a (exQ m (M.tbl a))) := by
  have K : Calls Tryz.prog 107 #[.pointer (some ⟨S, 0, none⟩), .int .u32 (a : Int), .int .u8 (m : Int), .int .u8 0, .func (.func 108) #[] #[]] w _ := answerq_any (nv := 0) (ex_is m) call_either (fun o z => either_join S o z m 0 M.n) s ha hm (by omega) hL
  go_enter Tryz.func96, Tryz.ntmps96
  go_wp2_with (first
    | (go_at_call 107; refine K.mono ?_; clear K; rintro e w8 ⟨p, er, M8, F8, rfl, t8, c8, s8, b8⟩; have tA : Aside (ToldQ M L (exQ m (M.tbl a)) p er M8) := t8; have cA : Aside (a < 2 → p = a ∧ er = 0) := c8; clear t8 c8))
  go_ret2
  exact ⟨p, er, M8, F8, rfl, tA.out, cA.out, s8, b8⟩
theorem exq_op (s : St w S F0 M) (ha : M.isNode a) (hm : m < 2 ^ M.n) :
    Calls Tryz.prog 96 #[.pointer (some ⟨S, 0, none⟩), .int .u32 (a : Int), .int .u8 (m : Int)] w (LeftQ S F0 w M 0 a (exQ m (M.tbl a))) := exq_opL s ha hm (Nat.zero_le _)
theorem exq_node (x : Int) (s : St w S F0 M) (ha : a < 4294967296) (no : ¬ M.isNode a) :
    Calls Tryz.prog 96 #[.pointer (some ⟨S, 0, none⟩), .int .u32 (a : Int), .int .u8 x] w fun e w' => e = .returned (.tuple #[.int .u32 0, .int .i64 101]) ∧ w' = w := by
  have K := answerq_node x 0 (.func (.func 108) #[] #[]) s ha no
  go_enter Tryz.func96, Tryz.ntmps96
  go_wp2_with (first
    | (go_at_call 107; refine K.mono ?_; clear K; rintro e w ⟨rfl, rfl⟩))
  go_ret2
  exact ⟨rfl, rfl⟩
theorem exq_var (s : St w S F0 M) (ha : M.isNode a) (hm : 2 ^ M.n ≤ m) :
    Calls Tryz.prog 96 #[.pointer (some ⟨S, 0, none⟩), .int .u32 (a : Int), .int .u8 (m : Int)] w fun e w' => e = .returned (.tuple #[.int .u32 0, .int .i64 40]) ∧ w' = w := by
  have K := answerq_var 0 (.func (.func 108) #[] #[]) s ha hm
  go_enter Tryz.func96, Tryz.ntmps96
  go_wp2_with (first
    | (go_at_call 107; refine K.mono ?_; clear K; rintro e w ⟨rfl, rfl⟩))
  go_ret2
  exact ⟨rfl, rfl⟩
end

/-! ## Over a store with known handles -/
section
variable {W w w' : World} {S n r b : Nat} {l : Kl} {x m nv : Nat} {X Y : Nat → Bool}
theorem leftq_x {F : Nat → Prop} {M : Mdl} {h : Nat} {e : Ending} (s : St w S F M) (e1 : M.n = n) (e2 : M.room = r) (e3 : M.up ≤ b) (q : Kn M l) (B : Below W.heap.size W w) (f : ∀ k, F k → W.heap.size ≤ k) (c : Nat) (hc : uq (n - 2) ≤ c) (hb : b + c + 19 ≤ r) (eX : Eqt Y X) (h : LeftQ S F w M 0 h Y e w') : LeftX W S n r l (b + c) X w e w' := by
  obtain ⟨z, er, M', F', rfl, t, _, s', g⟩ := h
  rw [← e1] at hc
  rcases t with ⟨rfl, t⟩ | ⟨rfl, rfl, t⟩
  · have u := t.up
    refine ⟨z, rfl, ⟨F', M', s', by rw [t.grew.n, e1], by rw [t.grew.room, e2], ?_, (q.grew s.ok t.grew).cons t.node (t.tbl.trans eX), Wf.far B g B.size f, g.after B.size f⟩, Out.of s g⟩
    rw [Nat.sub_zero] at u
    omega
  · exact (t.never s'.ok (by rw [Nat.sub_zero]; omega)).elim
theorem ex_x (h : Sx W w S n r l b) (hx : (x, X) ∈ l) (hm : m < 2 ^ n) (c : Nat) (hc : uq (n - 2) ≤ c) (hb : b + c + 19 ≤ r) :
    Calls Tryz.prog 96 #[.pointer (some ⟨S, 0, none⟩), .int .u32 (x : Int), .int .u8 (m : Int)] w (LeftX W S n r l (b + c) (exQ m X) w) := by
  obtain ⟨F, M, s, e1, e2, e3, q, B, f⟩ := h
  obtain ⟨nx, ex⟩ := q _ hx
  exact (exq_op s nx (by rw [e1]; exact hm)).mono fun e w' h => leftq_x s e1 e2 e3 q B f c hc hb ((ex_is m).congr _ _ ex) h
theorem ex_varx (h : Sx W w S n r l b) (hx : (x, X) ∈ l) (hm : 2 ^ n ≤ m) :
    Calls Tryz.prog 96 #[.pointer (some ⟨S, 0, none⟩), .int .u32 (x : Int), .int .u8 (m : Int)] w fun e w' => e = .returned (.tuple #[.int .u32 0, .int .i64 40]) ∧ w' = w := by
  obtain ⟨F, M, s, e1, e2, e3, q, B, f⟩ := h
  exact exq_var s (q _ hx).1 (by rw [e1]; exact hm)
end
end Go.Proofs.YtdjjelknjojnfaaGreat

namespace Go.Proofs.YtdjjelknjojnfaaGreat
open Go Go.RowKit
open Rf (fixAt fixF tab word IsTab)

theorem results_tmp4 {fn : Func} {t u v x : Tmp} (h : fn.results = #[.tmp t, .tmp u, .tmp v, .tmp x]) (tmps : Array Value) (P : Program) (w : World) :
    (results fn tmps).run P w = .ok (.tuple #[tmps.getD t undef, tmps.getD u undef, tmps.getD v undef, tmps.getD x undef]) w := by
  simp [results, h]
theorem boxes2 (w : World) (F G : Nat → Bool) : IsTab ((w.alloc (.cells #[.int .u64 (word F 0 : Int), .int .u64 (word F 1 : Int), .int .u64 (word F 2 : Int), .int .u64 (word F 3 : Int)] 42)).alloc (.cells #[.int .u64 (word G 0 : Int), .int .u64 (word G 1 : Int), .int .u64 (word G 2 : Int), .int .u64 (word G 3 : Int)] 42)) w.heap.size F ∧ IsTab ((w.alloc (.cells #[.int .u64 (word F 0 : Int), .int .u64 (word F 1 : Int), .int .u64 (word F 2 : Int), .int .u64 (word F 3 : Int)] 42)).alloc (.cells #[.int .u64 (word G 0 : Int), .int .u64 (word G 1 : Int), .int .u64 (word G 2 : Int), .int .u64 (word G 3 : Int)] 42)) (w.heap.size + 1) G ∧ Below w.heap.size w ((w.alloc (.cells #[.int .u64 (word F 0 : Int), .int .u64 (word F 1 : Int), .int .u64 (word F 2 : Int), .int .u64 (word F 3 : Int)] 42)).alloc (.cells #[.int .u64 (word G 0 : Int), .int .u64 (word G 1 : Int), .int .u64 (word G 2 : Int), .int .u64 (word G 3 : Int)] 42)) :=
  ⟨(IsTab.new w F).alloc _, IsTab.newAt (by simp) G, ((Below.refl _ w).alloc (Nat.le_refl _) _).alloc (by simp) _⟩
theorem var_x {W w : World} {S n r b v : Nat} {l : Kl} (h : Sx W w S n r l b) (hv : v < n) (c : Nat) (hc : 2 ^ (n - 2) ≤ c + 1) (hb : b + c + 19 ≤ r) :
    Calls Tryz.prog 72 #[.pointer (some ⟨S, 0, none⟩), .int .i64 (v : Int)] w (LeftX W S n r l (b + c) (Rf.M v) w) := by
  obtain ⟨F, M, s, e1, e2, e3, q, B, f⟩ := h
  obtain ⟨i, hi, hvi⟩ := surj_of_inj s.ok.vlt s.ok.vinj (u := v) (by rw [e1]; exact hv)
  have := var_op s hi
  rw [hvi] at this
  exact this.mono fun e w' h => left_x s e1 e2 e3 q B f c hc hb (Eqt.refl _) h
theorem beq_cast (x y : Nat) : ((x : Int) == (y : Int)) = decide (x = y) := by
  by_cases h : x = y
  · simp [h]
  · have : ¬ (x : Int) = (y : Int) := by omega
    simp [h, this]
section
variable {W w : World} {S N r b x a n : Nat} {l : Kl} {X F : Nat → Bool}
theorem const_told (h : Sx W w S N r l b) (hx : (x, X) ∈ l) (e : Eqt X (fun _ => F n)) (h0 : (0, c0) ∈ l) (h1 : (1, c1) ∈ l) : ((x : Int) ≤ 1) ∧ ((x : Int) == 1) = F n := by
  cases c : F n with
  | true =>
    have := h.same hx h1 (e.trans fun _ _ => c)
    subst this
    exact ⟨by omega, rfl⟩
  | false =>
    have := h.same hx h0 (e.trans fun _ _ => c)
    subst this
    exact ⟨by omega, rfl⟩
theorem ex_told (h : Sx W w S N r l b) (hx : (x, exQ 255 F) ∈ l) (ha : (a, F) ∈ l) (h0 : (0, c0) ∈ l) (h1 : (1, c1) ∈ l) : ((x : Int) ≤ 1) ∧ ((x : Int) == 1) = ((a : Int) != 0) := by
  have k : x = 1 ↔ ¬ a = 0 := by rw [h.one hx h1, ex_one_iff, h.one ha h0]
  refine ⟨?_, ?_⟩
  · rcases ex_all F with c | c
    · have := h.same hx h0 c; omega
    · have := h.same hx h1 c; omega
  · show _ = !((a : Int) == 0)
    rw [show (1 : Int) = ((1 : Nat) : Int) from rfl, show (0 : Int) = ((0 : Nat) : Int) from rfl, beq_cast, beq_cast]
    by_cases c : a = 0
    · rw [decide_eq_false fun e => k.1 e c, decide_eq_true c]; rfl
    · rw [decide_eq_true (k.2 c), decide_eq_false c]; rfl
theorem all_told (h : Sx W w S N r l b) (hx : (x, allQ 255 F) ∈ l) (ha : (a, F) ∈ l) (h1 : (1, c1) ∈ l) : ((x : Int) == 1) = ((a : Int) == 1) := by
  have k : x = 1 ↔ a = 1 := by rw [h.one hx h1, all_one_iff, h.one ha h1]
  rw [show (1 : Int) = ((1 : Nat) : Int) from rfl, beq_cast, beq_cast]
  exact decide_eq_decide.2 k
end
end Go.Proofs.YtdjjelknjojnfaaGreat
