/-
  The paths to 1 of a node, without a program: at each assignment just one of them, or none; how many there are; the sums of the first ones, and what nodes these have.
-/
import Derived.Test.YtfaccdnnjkkcfaaGreatDoorBdP
namespace Go.Proofs.YtfaccdnnjkkcfaaGreatDoor
open Go Go.RowKit
open Rf (fixAt fixF tab word same countUpto)

/-- Is an assignment on a path? -/
def onP (y : Nat) (p : Nat × Nat) : Bool := y &&& p.1 == p.2
theorem onP_iff {y : Nat} {p : Nat × Nat} : onP y p = true ↔ ∀ i, (y.testBit i && p.1.testBit i) = p.2.testBit i := by
  unfold onP
  rw [beq_iff_eq]
  constructor
  · intro h i
    rw [← h, Nat.testBit_and]
  · intro h
    exact Nat.eq_of_testBit_eq fun i => by rw [Nat.testBit_and]; exact h i
theorem onP_zero (y : Nat) : onP y (0, 0) = true := onP_iff.2 fun i => by simp
theorem bit_or2 (m v i : Nat) : (m ||| 2 ^ v).testBit i = (m.testBit i || decide (v = i)) := by rw [Nat.testBit_or, Nat.testBit_two_pow]
theorem onP_low {y m q v : Nat} (hm : m.testBit v = false) (hq : q.testBit v = false) : onP y (m ||| 2 ^ v, q) = (onP y (m, q) && !y.testBit v) := by
  rw [Bool.eq_iff_iff, Bool.and_eq_true, onP_iff, onP_iff]
  constructor
  · intro h
    refine ⟨fun i => ?_, ?_⟩
    · have := h i
      by_cases e : v = i
      · subst e; show (y.testBit v && m.testBit v) = q.testBit v; rw [hm, hq, Bool.and_false]
      · rw [bit_or2, decide_eq_false e, Bool.or_false] at this; exact this
    · have := h v
      rw [bit_or2, decide_eq_true rfl, Bool.or_true, Bool.and_true] at this
      rw [show y.testBit v = q.testBit v from this, hq]; rfl
  · rintro ⟨h, hv⟩ i
    show (y.testBit i && (m ||| 2 ^ v).testBit i) = q.testBit i
    rw [bit_or2]
    by_cases e : v = i
    · subst e
      rw [hq]
      cases c : y.testBit v with
      | false => rfl
      | true => rw [c] at hv; cases hv
    · rw [decide_eq_false e, Bool.or_false]; exact h i
theorem onP_high {y m q v : Nat} (hm : m.testBit v = false) (hq : q.testBit v = false) : onP y (m ||| 2 ^ v, q ||| 2 ^ v) = (onP y (m, q) && y.testBit v) := by
  rw [Bool.eq_iff_iff, Bool.and_eq_true, onP_iff, onP_iff]
  constructor
  · intro h
    refine ⟨fun i => ?_, ?_⟩
    · have := h i
      by_cases e : v = i
      · subst e; show (y.testBit v && m.testBit v) = q.testBit v; rw [hm, hq, Bool.and_false]
      · rw [bit_or2, bit_or2, decide_eq_false e, Bool.or_false, Bool.or_false] at this; exact this
    · have := h v
      rw [bit_or2, bit_or2, decide_eq_true rfl, Bool.or_true, Bool.or_true, Bool.and_true] at this
      exact this
  · rintro ⟨h, hv⟩ i
    show (y.testBit i && (m ||| 2 ^ v).testBit i) = (q ||| 2 ^ v).testBit i
    rw [bit_or2, bit_or2]
    by_cases e : v = i
    · subst e
      rw [hv, decide_eq_true rfl, Bool.or_true, Bool.or_true]; rfl
    · rw [decide_eq_false e, Bool.or_false, Bool.or_false]; exact h i

/-- On how many of them it is. -/
def hits (y : Nat) (ps : List (Nat × Nat)) : Nat := ps.countP (onP y)
theorem hits_append (y : Nat) (ps qs : List (Nat × Nat)) : hits y (ps ++ qs) = hits y ps + hits y qs := List.countP_append
section
variable {M : Mdl}
theorem two_of {x : Nat} (h : x < 2) : x = 0 ∨ x = 1 := by omega
theorem low_inner (o : M.Ok) {d x : Nat} (xm : x ∈ M.hs) (hd : M.n - M.lev x ≤ d + 1) : M.n - M.lev (M.nd x).2.1 ≤ d ∧ M.n - M.lev (M.nd x).2.2 ≤ d := by
  have h1 := (o.lo x xm).2
  have h2 := (o.hi x xm).2
  rw [Mdl.lev_in o xm] at hd
  omega
theorem const_of (o : M.Ok) {x : Nat} (xn : M.isNode x) (h : M.n - M.lev x ≤ 0) : x < 2 := by
  rcases xn with c | c
  · exact c
  · have := o.lv x c
    rw [Mdl.lev_in o c] at h
    omega
/-- At each assignment that has come this way, just one path if the node is true there, else none. -/
theorem hits_paths (o : M.Ok) (d : Nat) : ∀ {x m q : Nat}, M.isNode x → M.n - M.lev x ≤ d → (∀ i, M.lev x ≤ i → i < M.n → m.testBit (M.v i) = false ∧ q.testBit (M.v i) = false) → ∀ y, hits y (pathsN M d x m q) = if (onP y (m, q) && M.tbl x y) = true then 1 else 0 := by
  have base : ∀ {d x m q : Nat}, x < 2 → ∀ y, hits y (pathsN M d x m q) = if (onP y (m, q) && M.tbl x y) = true then 1 else 0 := fun {d x m q} h y => by
    rcases two_of h with rfl | rfl
    · rw [pathsN_zero, show M.tbl 0 y = false from Mdl.val_zero _, Bool.and_false]; rfl
    · rw [pathsN_one, show M.tbl 1 y = true from Mdl.val_one _, Bool.and_true]
      show List.countP (onP y) [(m, q)] = _
      rw [List.countP_singleton]
  induction d with
  | zero =>
    intro x m q xn hd _ y
    exact base (const_of o xn hd) y
  | succ d ih =>
    intro x m q xn hd free y
    by_cases h2 : x < 2
    · exact base h2 y
    · have xm : x ∈ M.hs := xn.resolve_left h2
      obtain ⟨d1, d2⟩ := low_inner o xm hd
      have lx := Mdl.lev_in o xm
      have ll := o.lo x xm
      have lh := o.hi x xm
      have ln := o.lv x xm
      rw [pathsN_in _ _ _ _ _ h2, hits_append, tbl_in o xm y]
      obtain ⟨hm, hq⟩ := free (M.nd x).1 (by omega) ln
      have other : ∀ i, (M.nd x).1 < i → i < M.n → (m ||| 2 ^ M.v (M.nd x).1).testBit (M.v i) = false ∧ q.testBit (M.v i) = false ∧ (q ||| 2 ^ M.v (M.nd x).1).testBit (M.v i) = false := fun i h1 hn => by
        obtain ⟨a, b⟩ := free i (by omega) hn
        have ne : M.v (M.nd x).1 ≠ M.v i := fun e => by have := o.vinj _ _ ln hn e; omega
        rw [bit_or2, bit_or2, a, b, decide_eq_false ne]
        exact ⟨rfl, rfl, rfl⟩
      rw [ih ll.1 d1 (fun i h1 hn => ⟨(other i (by omega) hn).1, (other i (by omega) hn).2.1⟩) y, ih lh.1 d2 (fun i h1 hn => ⟨(other i (by omega) hn).1, (other i (by omega) hn).2.2⟩) y, onP_low hm hq, onP_high hm hq, ← Rf.M_bit]
      cases onP y (m, q) <;> cases y.testBit (M.v (M.nd x).1) <;> cases M.tbl (M.nd x).2.1 y <;> cases M.tbl (M.nd x).2.2 y <;> rfl
/-- Values lie in the mask; both are bytes. -/
theorem paths_in (o : M.Ok) (d : Nat) : ∀ {x m q : Nat}, M.isNode x → (∀ i, q.testBit i = true → m.testBit i = true) → m < 2 ^ M.n → q < 2 ^ M.n → ∀ p ∈ pathsN M d x m q, (∀ i, p.2.testBit i = true → p.1.testBit i = true) ∧ p.1 < 2 ^ M.n ∧ p.2 < 2 ^ M.n := by
  have base : ∀ {d x m q : Nat}, x < 2 → (∀ i, q.testBit i = true → m.testBit i = true) → m < 2 ^ M.n → q < 2 ^ M.n → ∀ p ∈ pathsN M d x m q, (∀ i, p.2.testBit i = true → p.1.testBit i = true) ∧ p.1 < 2 ^ M.n ∧ p.2 < 2 ^ M.n := fun {d x m q} h hs hm hq p hp => by
    rcases two_of h with rfl | rfl
    · rw [pathsN_zero] at hp; cases hp
    · rw [pathsN_one, List.mem_singleton] at hp
      subst hp
      exact ⟨hs, hm, hq⟩
  induction d with
  | zero =>
    intro x m q xn hs hm hq p hp
    by_cases h2 : x < 2
    · exact base h2 hs hm hq p hp
    · rw [pathsN, if_neg (by omega)] at hp; cases hp
  | succ d ih =>
    intro x m q xn hs hm hq p hp
    by_cases h2 : x < 2
    · exact base h2 hs hm hq p hp
    · have xm : x ∈ M.hs := xn.resolve_left h2
      have hP : 2 ^ M.v (M.nd x).1 < 2 ^ M.n := Nat.pow_lt_pow_right (by omega) (o.vlt _ (o.lv x xm))
      rw [pathsN_in _ _ _ _ _ h2] at hp
      rcases List.mem_append.1 hp with hp | hp
      · refine ih (o.lo x xm).1 (fun i h => ?_) (Nat.or_lt_two_pow hm hP) hq p hp
        rw [bit_or2, hs i h]; rfl
      · refine ih (o.hi x xm).1 (fun i h => ?_) (Nat.or_lt_two_pow hm hP) (Nat.or_lt_two_pow hq hP) p hp
        rw [bit_or2] at h ⊢
        cases c : q.testBit i with
        | true => rw [hs i c]; rfl
        | false => rw [c, Bool.false_or] at h; rw [h, Bool.or_true]
/-- How many there are at most. -/
theorem paths_len (o : M.Ok) (d : Nat) : ∀ {x m q : Nat}, M.isNode x → M.n - M.lev x ≤ d → (pathsN M d x m q).length ≤ 2 ^ (d - 1) := by
  have base : ∀ {d x m q : Nat}, x < 2 → (pathsN M d x m q).length ≤ 1 := fun {d x m q} h => by
    rcases two_of h with rfl | rfl
    · rw [pathsN_zero]; exact Nat.zero_le _
    · rw [pathsN_one]; exact Nat.le_refl _
  have pos : ∀ k : Nat, 1 ≤ 2 ^ k := fun k => Nat.pow_pos (by omega)
  induction d with
  | zero => intro x m q xn hd; exact Nat.le_trans (base (const_of o xn hd)) (pos _)
  | succ d ih =>
    intro x m q xn hd
    by_cases h2 : x < 2
    · exact Nat.le_trans (base h2) (pos _)
    · have xm : x ∈ M.hs := xn.resolve_left h2
      obtain ⟨d1, d2⟩ := low_inner o xm hd
      rw [pathsN_in _ _ _ _ _ h2, List.length_append]
      have l1 := ih (m := m ||| 2 ^ M.v (M.nd x).1) (q := q) (o.lo x xm).1 d1
      have l2 := ih (m := m ||| 2 ^ M.v (M.nd x).1) (q := q ||| 2 ^ M.v (M.nd x).1) (o.hi x xm).1 d2
      cases d with
      | zero =>
        have a := const_of o (o.lo x xm).1 d1
        have b := const_of o (o.hi x xm).1 d2
        have ne := o.ne x xm
        rcases two_of a with a | a <;> rcases two_of b with b | b
        · omega
        · rw [a, b, pathsN_zero, pathsN_one]; exact Nat.le_refl _
        · rw [a, b, pathsN_zero, pathsN_one]; exact Nat.le_refl _
        · omega
      | succ d =>
        have e : 2 ^ (d + 1 + 1 - 1) = 2 ^ (d + 1 - 1) + 2 ^ (d + 1 - 1) := by
          show 2 ^ (d + 1) = 2 ^ d + 2 ^ d
          rw [Nat.pow_succ]; omega
        omega
theorem paths_map (M : Mdl) (d : Nat) : ∀ x m q m' q', pathsN M d x (m ||| m') (q ||| q') = (pathsN M d x m q).map fun p => (p.1 ||| m', p.2 ||| q') := by
  induction d with
  | zero =>
    intro x m q m' q'
    by_cases h : x = 1
    · subst h; rw [pathsN_one, pathsN_one]; rfl
    · rw [pathsN, pathsN, if_neg h, if_neg h]; rfl
  | succ d ih =>
    intro x m q m' q'
    by_cases h2 : x < 2
    · rcases two_of h2 with rfl | rfl
      · rw [pathsN_zero, pathsN_zero]; rfl
      · rw [pathsN_one, pathsN_one]; rfl
    · rw [pathsN_in _ _ _ _ _ h2, pathsN_in _ _ _ _ _ h2, List.map_append, ← ih, ← ih]
      have c : ∀ a b P : Nat, (a ||| b) ||| P = (a ||| P) ||| b := fun a b P => by rw [Nat.or_assoc, Nat.or_comm b P, ← Nat.or_assoc]
      rw [c m m', c q q']
theorem paths_from (M : Mdl) (d x m q : Nat) : pathsN M d x m q = (pathsN M d x 0 0).map fun p => (p.1 ||| m, p.2 ||| q) := by
  have := paths_map M d x 0 0 m q
  rwa [Nat.zero_or, Nat.zero_or] at this
/-- They speak of the node's own levels alone. -/
theorem paths_free (o : M.Ok) (d : Nat) : ∀ {x m q k : Nat}, M.isNode x → k < M.lev x → k < M.n → m.testBit (M.v k) = false → q.testBit (M.v k) = false → ∀ p ∈ pathsN M d x m q, p.1.testBit (M.v k) = false ∧ p.2.testBit (M.v k) = false := by
  induction d with
  | zero =>
    intro x m q k xn hk hn hm hq p hp
    by_cases h : x = 1
    · subst h; rw [pathsN_one, List.mem_singleton] at hp; subst hp; exact ⟨hm, hq⟩
    · rw [pathsN, if_neg h] at hp; cases hp
  | succ d ih =>
    intro x m q k xn hk hn hm hq p hp
    by_cases h2 : x < 2
    · rcases two_of h2 with rfl | rfl
      · rw [pathsN_zero] at hp; cases hp
      · rw [pathsN_one, List.mem_singleton] at hp; subst hp; exact ⟨hm, hq⟩
    · have xm : x ∈ M.hs := xn.resolve_left h2
      have ll := o.lo x xm
      have lh := o.hi x xm
      have lx := Mdl.lev_in o xm
      have ne : M.v (M.nd x).1 ≠ M.v k := fun e => by have := o.vinj _ _ (o.lv x xm) hn e; omega
      rw [pathsN_in _ _ _ _ _ h2] at hp
      have hm' : (m ||| 2 ^ M.v (M.nd x).1).testBit (M.v k) = false := by rw [bit_or2, hm, decide_eq_false ne]; rfl
      have hq' : (q ||| 2 ^ M.v (M.nd x).1).testBit (M.v k) = false := by rw [bit_or2, hq, decide_eq_false ne]; rfl
      rcases List.mem_append.1 hp with hp | hp
      · exact ih ll.1 (by omega) hn hm' hq p hp
      · exact ih lh.1 (by omega) hn hm' hq' p hp

/-! ## The sums of the first paths -/
def sumP (ps : List (Nat × Nat)) : Nat → Bool := fun y => ps.any (onP y)
theorem sum_hits (ps : List (Nat × Nat)) (y : Nat) : sumP ps y = decide (0 < hits y ps) := by
  unfold sumP hits
  rw [Bool.eq_iff_iff, decide_eq_true_iff, List.countP_pos_iff, List.any_eq_true]
/-- All of them together are the node. -/
theorem sum_all (o : M.Ok) {x : Nat} (xn : M.isNode x) (y : Nat) : sumP (pathsL M x) y = M.tbl x y := by
  rw [sum_hits]
  unfold pathsL
  rw [hits_paths o M.n xn (by omega) (fun i _ _ => ⟨Nat.zero_testBit _, Nat.zero_testBit _⟩) y, onP_zero, Bool.true_and]
  cases M.tbl x y <;> rfl
theorem sum_all' (o : M.Ok) (d : Nat) {x : Nat} (xn : M.isNode x) (hd : M.n - M.lev x ≤ d) (y : Nat) : sumP (pathsN M d x 0 0) y = M.tbl x y := by
  rw [sum_hits, hits_paths o d xn hd (fun i _ _ => ⟨Nat.zero_testBit _, Nat.zero_testBit _⟩) y, onP_zero, Bool.true_and]
  cases M.tbl x y <;> rfl
theorem any_map {α β : Type} (l : List α) (f : α → β) (p : β → Bool) : (l.map f).any p = l.any fun a => p (f a) := by
  induction l with
  | nil => rfl
  | cons a l ih => rw [List.map_cons, List.any_cons, List.any_cons, ih]
theorem any_congr {α : Type} {p q : α → Bool} : ∀ (l : List α), (∀ a ∈ l, p a = q a) → l.any p = l.any q
  | [], _ => rfl
  | a :: l, h => by rw [List.any_cons, List.any_cons, h a (by simp), any_congr l fun b hb => h b (by simp [hb])]
theorem any_no {α : Type} {p : α → Bool} : ∀ (l : List α), (∀ a ∈ l, p a = false) → l.any p = false
  | [], _ => rfl
  | a :: l, h => by rw [List.any_cons, h a (by simp), any_no l fun b hb => h b (by simp [hb])]; rfl
/-- A path below a variable, at an assignment whose variable is fixed. -/
theorem onP_fix {v y : Nat} {p : Nat × Nat} (hy : y < 256) (hv : v < 8) (h1 : p.1.testBit v = false) (h2 : p.2.testBit v = false) (b : Bool) : onP (fixAt v b y) p = onP y p := by
  obtain ⟨_, hb⟩ := fixAt_bits hy hv b
  rw [Bool.eq_iff_iff, onP_iff, onP_iff, hb]
  constructor
  · intro h i
    by_cases e : i = v
    · subst e; rw [h1, h2, Bool.and_false]
    · have := h i; rwa [Mdl.setA_other _ _ e] at this
  · intro h i
    by_cases e : i = v
    · subst e; rw [h1, h2, Bool.and_false]
    · rw [Mdl.setA_other _ _ e]; exact h i
theorem sum_halves (o : M.Ok) {d x : Nat} (xm : x ∈ M.hs) (j : Nat) :
    Eqt (fixF (sumP ((pathsN M (d + 1) x 0 0).take j)) (M.v (M.nd x).1) false) (sumP ((pathsN M d (M.nd x).2.1 0 0).take j)) ∧
    Eqt (fixF (sumP ((pathsN M (d + 1) x 0 0).take j)) (M.v (M.nd x).1) true) (sumP ((pathsN M d (M.nd x).2.2 0 0).take (j - (pathsN M d (M.nd x).2.1 0 0).length))) := by
  have h2 : ¬ x < 2 := by have := (o.range x xm).1; omega
  have ln := o.lv x xm
  have hv := v8 o ln
  obtain ⟨v, ev⟩ : ∃ v, M.v (M.nd x).1 = v := ⟨_, rfl⟩
  have f1 : ∀ p ∈ pathsN M d (M.nd x).2.1 0 0, p.1.testBit v = false ∧ p.2.testBit v = false := fun p hp => by
    rw [← ev]; exact paths_free o d (o.lo x xm).1 (o.lo x xm).2 ln (Nat.zero_testBit _) (Nat.zero_testBit _) p hp
  have f2 : ∀ p ∈ pathsN M d (M.nd x).2.2 0 0, p.1.testBit v = false ∧ p.2.testBit v = false := fun p hp => by
    rw [← ev]; exact paths_free o d (o.hi x xm).1 (o.hi x xm).2 ln (Nat.zero_testBit _) (Nat.zero_testBit _) p hp
  rw [pathsN_in _ _ _ _ _ h2, ev, paths_from M d _ (0 ||| 2 ^ v) 0, paths_from M d _ (0 ||| 2 ^ v) (0 ||| 2 ^ v), List.take_append, List.length_map]
  rw [ev] at hv
  simp only [Nat.zero_or, Nat.or_zero]
  rw [← List.map_take, ← List.map_take]
  generalize pathsN M d (M.nd x).2.1 0 0 = l1 at f1
  generalize pathsN M d (M.nd x).2.2 0 0 = l2 at f2
  have step : ∀ (b : Bool) (y : Nat), y < 256 → sumP ((l1.take j).map (fun p => (p.1 ||| 2 ^ v, p.2)) ++ (l2.take (j - l1.length)).map (fun p => (p.1 ||| 2 ^ v, p.2 ||| 2 ^ v))) (fixAt v b y) = ((sumP (l1.take j) y && !b) || (sumP (l2.take (j - l1.length)) y && b)) := fun b y hy => by
    have hb : (fixAt v b y).testBit v = b := by rw [(fixAt_bits hy hv b).2]; exact Mdl.setA_same _ _ _
    unfold sumP
    rw [List.any_append, any_map, any_map]
    have e1 : (l1.take j).any (fun p => onP (fixAt v b y) (p.1 ||| 2 ^ v, p.2)) = (l1.take j).any fun p => onP y p && !b := any_congr _ fun p hp => by
      obtain ⟨a, c⟩ := f1 p (List.mem_of_mem_take hp)
      rw [onP_low a c, hb, onP_fix (p := (p.1, p.2)) hy hv a c]
    have e2 : (l2.take (j - l1.length)).any (fun p => onP (fixAt v b y) (p.1 ||| 2 ^ v, p.2 ||| 2 ^ v)) = (l2.take (j - l1.length)).any fun p => onP y p && b := any_congr _ fun p hp => by
      obtain ⟨a, c⟩ := f2 p (List.mem_of_mem_take hp)
      rw [onP_high a c, hb, onP_fix (p := (p.1, p.2)) hy hv a c]
    rw [e1, e2]
    cases b with
    | false =>
      rw [any_no (l2.take _) fun p _ => Bool.and_false _]
      simp
    | true =>
      simp only [Bool.not_true]
      rw [any_no (l1.take _) fun p _ => Bool.and_false _]
      simp
  constructor
  · intro y hy
    refine (step false y hy).trans ?_
    simp
  · intro y hy
    refine (step true y hy).trans ?_
    simp
theorem sum_dep (o : M.Ok) (d : Nat) {x k : Nat} (xn : M.isNode x) (_hd : M.n - M.lev x ≤ d) (hk : k ≤ M.lev x) (j : Nat) : Dep M k (sumP ((pathsN M d x 0 0).take j)) := fun y z hy hz e => by
  unfold sumP
  refine any_congr _ fun p hp => ?_
  have hp := List.mem_of_mem_take hp
  obtain ⟨sub, l1, l2⟩ := paths_in o d xn (fun i h => by rw [Nat.zero_testBit] at h; cases h) (Nat.pow_pos (by omega)) (Nat.pow_pos (by omega)) p hp
  have key : ∀ i, p.1.testBit i = true → y.testBit i = z.testBit i := fun i hi => by
    have hin : i < M.n := by
      by_cases c : i < M.n
      · exact c
      · rw [Nat.testBit_lt_two_pow (Nat.lt_of_lt_of_le l1 (Nat.pow_le_pow_right (by omega) (by omega)))] at hi; cases hi
    obtain ⟨t, ht, rfl⟩ := o.onto hin
    refine e t ?_ ht
    by_cases c : k ≤ t
    · exact c
    · have := (paths_free o d xn (show t < M.lev x by omega) ht (Nat.zero_testBit _) (Nat.zero_testBit _) p hp).1
      rw [this] at hi; cases hi
  rw [Bool.eq_iff_iff, onP_iff, onP_iff]
  constructor
  · intro h i
    rw [← h i]
    cases c : p.1.testBit i with
    | false => rw [Bool.and_false, Bool.and_false]
    | true => rw [key i c]
  · intro h i
    rw [← h i]
    cases c : p.1.testBit i with
    | false => rw [Bool.and_false, Bool.and_false]
    | true => rw [key i c]
/-- A sum of first paths has few nodes besides those of the node itself. -/
theorem sum_near (o : M.Ok) (d : Nat) : ∀ {x : Nat} (_ : M.isNode x) (_ : M.n - M.lev x ≤ d) (j : Nat), ∃ L : List (Nat → Bool), L.length ≤ M.n - M.lev x ∧ ∀ G, Prt M (sumP ((pathsN M d x 0 0).take j)) G → (∃ H ∈ L, Eqt H G) ∨ Prt M (M.tbl x) G := by
  have base : ∀ {d x : Nat} (_ : x < 2) (j : Nat), ∃ L : List (Nat → Bool), L.length ≤ M.n - M.lev x ∧ ∀ G, Prt M (sumP ((pathsN M d x 0 0).take j)) G → (∃ H ∈ L, Eqt H G) ∨ Prt M (M.tbl x) G := fun {d x} h j => by
    refine ⟨[], Nat.zero_le _, fun G hG => ?_⟩
    have c : Cst (sumP ((pathsN M d x 0 0).take j)) := by
      rcases two_of h with rfl | rfl
      · rw [pathsN_zero, List.take_nil]; exact .inl fun _ _ => rfl
      · rw [pathsN_one]
        cases j with
        | zero => exact .inl fun _ _ => rfl
        | succ j => exact .inr fun y _ => by show List.any ([(0, 0)].take (j + 1)) (onP y) = true; rw [List.take_succ_cons, List.any_cons, onP_zero]; rfl
    have dp : Dep M 0 (sumP ((pathsN M d x 0 0).take j)) := fun y z hy hz _ => by
      rcases c with c | c <;> rw [c y hy, c z hz]
    exact absurd hG (Prt.not_cst o dp c)
  induction d with
  | zero => intro x xn hd j; exact base (const_of o xn hd) j
  | succ d ih =>
    intro x xn hd j
    by_cases h2 : x < 2
    · exact base h2 j
    · have xm : x ∈ M.hs := xn.resolve_left h2
      obtain ⟨d1, d2⟩ := low_inner o xm hd
      have ln := o.lv x xm
      have lx := Mdl.lev_in o xm
      have ll := o.lo x xm
      have lh := o.hi x xm
      have lle := Mdl.lev_le o ll.1
      have lhe := Mdl.lev_le o lh.1
      have dep := sum_dep o (d + 1) xn hd (Nat.le_of_eq lx.symm) j
      obtain ⟨e1, e2⟩ := sum_halves o (d := d) xm j
      have dt : Dep M (M.nd x).1 (M.tbl x) := tbl_dep o xn (by omega)
      have D0 : ∀ {F : Nat → Bool} {k : Nat}, Dep M k F → Dep M 0 F := fun h => h.mono (Nat.zero_le _)
      have lowT : ∀ G, Prt M (M.tbl (M.nd x).2.1) G → Prt M (M.tbl x) G := fun G hG => (Prt.step o ln dt).2 (.inr (.inl ((Prt.like o (D0 (tbl_dep o ll.1 (Nat.le_refl _))) (tbl_lo o xm)).1 hG)))
      have highT : ∀ G, Prt M (M.tbl (M.nd x).2.2) G → Prt M (M.tbl x) G := fun G hG => (Prt.step o ln dt).2 (.inr (.inr ((Prt.like o (D0 (tbl_dep o lh.1 (Nat.le_refl _))) (tbl_hi o xm)).1 hG)))
      have lowS : ∀ G, Prt M (fixF (sumP ((pathsN M (d + 1) x 0 0).take j)) (M.v (M.nd x).1) false) G → Prt M (sumP ((pathsN M d (M.nd x).2.1 0 0).take j)) G := fun G hG => (Prt.like o (D0 (dep.fix o ln false)) e1).1 hG
      have highS : ∀ G, Prt M (fixF (sumP ((pathsN M (d + 1) x 0 0).take j)) (M.v (M.nd x).1) true) G → Prt M (sumP ((pathsN M d (M.nd x).2.2 0 0).take (j - (pathsN M d (M.nd x).2.1 0 0).length))) G := fun G hG => (Prt.like o (D0 (dep.fix o ln true)) e2).1 hG
      by_cases c : j ≤ (pathsN M d (M.nd x).2.1 0 0).length
      · obtain ⟨L, hL, h⟩ := ih ll.1 d1 j
        refine ⟨sumP ((pathsN M (d + 1) x 0 0).take j) :: L, by rw [List.length_cons]; omega, fun G hG => ?_⟩
        rcases (Prt.step o ln dep).1 hG with ⟨e, _⟩ | hG | hG
        · exact .inl ⟨_, List.mem_cons_self, e⟩
        · rcases h G (lowS G hG) with ⟨H, hH, e⟩ | q
          · exact .inl ⟨H, List.mem_cons_of_mem _ hH, e⟩
          · exact .inr (lowT G q)
        · have q := highS G hG
          rw [show j - (pathsN M d (M.nd x).2.1 0 0).length = 0 by omega, List.take_zero] at q
          exact absurd q (Prt.not_cst o (fun _ _ _ _ _ => rfl) (.inl fun _ _ => rfl))
      · obtain ⟨L, hL, h⟩ := ih lh.1 d2 (j - (pathsN M d (M.nd x).2.1 0 0).length)
        refine ⟨sumP ((pathsN M (d + 1) x 0 0).take j) :: L, by rw [List.length_cons]; omega, fun G hG => ?_⟩
        rcases (Prt.step o ln dep).1 hG with ⟨e, _⟩ | hG | hG
        · exact .inl ⟨_, List.mem_cons_self, e⟩
        · have q := lowS G hG
          rw [List.take_of_length_le (by omega)] at q
          have e : Eqt (sumP (pathsN M d (M.nd x).2.1 0 0)) (M.tbl (M.nd x).2.1) := fun y _ => sum_all' o d ll.1 d1 y
          have dp := sum_dep o d ll.1 d1 (Nat.zero_le _) (pathsN M d (M.nd x).2.1 0 0).length
          rw [List.take_of_length_le (Nat.le_refl _)] at dp
          exact .inr (lowT G ((Prt.like o dp e).1 q))
        · rcases h G (highS G hG) with ⟨H, hH, e⟩ | q
          · exact .inl ⟨H, List.mem_cons_of_mem _ hH, e⟩
          · exact .inr (highT G q)
/-- How many nodes are new, where all parts but these are there. -/
theorem fresh_le (o : M.Ok) {F : Nat → Bool} (d : Dep M 0 F) (L : List (Nat → Bool)) (h : ∀ G, Prt M F G → (∃ H ∈ L, Eqt H G) ∨ Has M G) : (prts M F).length - both M F ≤ L.length := by
  have e := join_len o F
  have nd := join_nodup o F
  rw [List.length_append, encs_len] at e
  have : (rest (encs M) ((prts M F).map encT)).length ≤ (L.map encT).length := nodup_le _ _ (List.nodup_append.1 nd).2.1 fun z hz => by
    obtain ⟨h1, h2⟩ := mem_rest.1 hz
    obtain ⟨G, _, rfl⟩ := List.mem_map.1 h1
    rcases h G ((prts_enc o d G).1 h1) with ⟨H, hH, e⟩ | q
    · exact List.mem_map.2 ⟨H, hH, (encT_iff _ _).2 e⟩
    · exact absurd (encs_iff.2 q) h2
  rw [List.length_map] at this
  omega
end
end Go.Proofs.YtfaccdnnjkkcfaaGreatDoor
