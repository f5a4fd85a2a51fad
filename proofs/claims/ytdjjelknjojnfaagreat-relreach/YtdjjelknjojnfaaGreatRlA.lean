/-
  Package rel over a store with known handles: next and previous states, those reached; refusals.
-/
import Derived.Test.YtdjjelknjojnfaaGreatRlT
namespace Go.Proofs.YtdjjelknjojnfaaGreat
open Go Go.RowKit
open Rf (fixAt fixF IntsAt nextF prevF)

theorem cst_and {X Y : Nat → Bool} (h : Cst X) (k : Cst Y) : Cst (fA X Y) := by
  rcases h with h | h
  · exact .inl fun x hx => by show (X x && Y x) = false; rw [h x hx]; rfl
  · rcases k with k | k
    · exact .inl fun x hx => by show (X x && Y x) = false; rw [k x hx]; exact Bool.and_false _
    · exact .inr fun x hx => by show (X x && Y x) = true; rw [h x hx, k x hx]; rfl
theorem cst_or {X Y : Nat → Bool} (h : Cst X) (k : Cst Y) : Cst (fO X Y) := by
  rcases h with h | h
  · rcases k with k | k
    · exact .inl fun x hx => by show (X x || Y x) = false; rw [h x hx, k x hx]; rfl
    · exact .inr fun x hx => by show (X x || Y x) = true; rw [k x hx]; exact Bool.or_true _
  · exact .inr fun x hx => by show (X x || Y x) = true; rw [h x hx]; rfl
theorem cst_ex {X : Nat → Bool} {m : Nat} (h : Cst X) : Cst (exQ m X) := by
  rcases h with h | h
  · exact .inl fun x hx => by
      cases q : exQ m X x with
      | false => rfl
      | true =>
        obtain ⟨y, hy, _, f⟩ := (exQ_iff ..).1 q
        rw [h y hy] at f
        cases f
  · exact .inr fun x hx => (exQ_iff ..).2 ⟨x, hx, fun _ _ _ => rfl, h x hx⟩
theorem cst_sw {X : Nat → Bool} {n : Nat} (hn : n ≤ 8) (h : Cst X) : Cst (sbF n swG X) := by
  rcases h with h | h
  · exact .inl fun x hx => h _ (sw_lt hn hx)
  · exact .inr fun x hx => h _ (sw_lt hn hx)
/-- What a step takes: anything, or what steps of constants by constants take. -/
def Bud (n a e : Nat) (X Y : Nat → Bool) : Prop := (2 ^ (n - 2) ≤ a + 1 ∧ uq (n - 2) ≤ e) ∨ (Cst X ∧ Cst Y)
section
variable {W w w' : World} {S n r b g x y : Nat} {l : Kl} {X Y Z : Nat → Bool} {a e : Nat}
theorem Bud.small (h : Bud n a e X Y) (k : Cst X → Cst Y → Cst Z) : Small n Z a := by
  rcases h with h | h
  · exact .inl h.1
  · exact .inr (.inl (k h.1 h.2))
theorem Bud.ex (h : Bud n a e X Y) (k : Cst X → Cst Y → Cst Z) : uq (n - 2) ≤ e ∨ Cst Z := by
  rcases h with h | h
  · exact .inl h.2
  · exact .inr (k h.1 h.2)
theorem nx_cst (h : Cst X) (k : Cst Y) : Cst (nextF X Y) := by
  rcases h with h | h
  · exact .inl fun x hx => by
      cases q : nextF X Y x with
      | false => rfl
      | true =>
        obtain ⟨y, hy, f, _⟩ := (nx_half ..).1 q
        rw [h y hy] at f
        cases f
  · rcases k with k | k
    · exact .inl fun x hx => by
        cases q : nextF X Y x with
        | false => rfl
        | true =>
          obtain ⟨y, hy, _, f, _⟩ := (nx_half ..).1 q
          rw [k y hy] at f
          cases f
    · exact .inr fun x hx => (nx_half ..).2 ⟨jnN 0 (Rf.halfN x), jn_lt _ _, h _ (jn_lt _ _), k _ (jn_lt _ _), (jn_half 0 _ (by omega) (half_lt x)).2⟩
theorem rch_cst (h : Cst X) (k : Cst Y) : ∀ j, Cst (rchF X Y j)
  | 0 => h
  | j + 1 => cst_or (rch_cst h k j) (nx_cst (rch_cst h k j) k)
theorem Bud.rch (h : Bud n a e X Y) (j : Nat) : Bud n a e (rchF X Y j) Y := by
  rcases h with h | h
  · exact .inl h
  · exact .inr ⟨rch_cst h.1 h.2 j, h.2⟩
theorem LeftX.up {c c' : Nat} {e : Ending} (h : LeftX W S n r l c X w e w') (k : c ≤ c') : LeftX W S n r l c' X w e w' := by
  obtain ⟨z, rfl, x, o⟩ := h
  exact ⟨z, rfl, x.more k, o⟩
set_option maxRecDepth 100000 in
set_option maxHeartbeats 1000000 in
theorem next_c (h : Sx W w S n r l b) (h2 : n % 2 = 0) (hx : (x, X) ∈ l) (hy : (y, Y) ∈ l) (hB : Bud n a e X Y) (hb : b + (a + e + a) + 19 ≤ r) :
    Calls Tryz.prog 62 #[rlV S y, .int .u32 (x : Int)] w (LeftX W S n r l (b + (a + e + a)) (nextF X Y) w) := by
  have n8 := h.n8
  have ep := nx_pure n8 h2 (h.tri hx) (h.tri hy)
  have s3 : Small n (sbF n swG (exQ (mkN 85 n) (fA Y X))) a := hB.small fun p q => cst_sw n8 (cst_ex (cst_and q p))
  unfold rlV
  go_enter Tryz.func62, Tryz.ntmps62
  go_upto_region 1 with fail
  have i1 := IsRl.new w S y
  have B1 := nb w (.cells #[.pointer (some ⟨S, 0, none⟩), .int .u32 (y : Int)] 101)
  have x1 := h.below B1
  have u1 : Aside (Out w (w.alloc (.cells #[.pointer (some ⟨S, 0, none⟩), .int .u32 (y : Int)] 101))) := Out.below B1
  clear B1 h
  generalize w.alloc (.cells #[.pointer (some ⟨S, 0, none⟩), .int .u32 (y : Int)] 101) = w1 at i1 x1 u1 ⊢
  obtain ⟨g, hg⟩ : ∃ g, w.heap.size = g := ⟨_, rfl⟩
  rw [hg] at i1
  conv in (occs := *) (Value.pointer (some ⟨w.heap.size, 0, none⟩)) => all_goals rw [hg]
  clear hg
  obtain ⟨C0, C1⟩ := i1.cells
  have K1 := met_c x1 hx hy 85 (by decide) a e (hB.small fun p q => cst_and q p) (hB.ex fun p q => cst_and q p) (by omega)
  have epA : Aside (Eqt (sbF n swG (exQ (mkN 85 n) (fA Y X))) (nextF X Y)) := ep
  unfold rlV at K1
  clear hx hy hB ep
  go_upto_region 4 with (first
    | (go_at_call 82; refine K1.mono ?_; clear K1; rintro e' w2 ⟨z, rfl, x2, u2⟩))
  have i2 := i1.out u2
  have u2A : Aside (Out w w2) := u1.out.trans u2
  have K2 := turned_c x2 h2 (x := z) (.head _) y a s3 (by omega)
  unfold rlV at K2
  clear i1 x1 u1 C0 C1 u2 x2 s3
  obtain ⟨C0, C1⟩ := i2.cells
  go_wp2_with (first
    | (go_at_call 83; refine K2.mono ?_; clear K2; rintro e' w3 ⟨z3, rfl, x3, u3⟩))
  go_ret2
  exact (LeftX.drop u2A.out epA.out ⟨z3, rfl, x3, u3⟩).up (by omega)
set_option maxRecDepth 100000 in
set_option maxHeartbeats 1000000 in
theorem prev_c (h : Sx W w S n r l b) (h2 : n % 2 = 0) (cX : Cur X) (hx : (x, X) ∈ l) (hy : (y, Y) ∈ l) (hB : Bud n a e X Y) (hb : b + (a + e + a) + 19 ≤ r) :
    Calls Tryz.prog 63 #[rlV S y, .int .u32 (x : Int)] w (LeftX W S n r l (b + (a + e + a)) (prevF X Y) w) := by
  have n8 := h.n8
  have ep := pv_pure n8 h2 cX (h.tri hx) (h.tri hy)
  have s3 : Small n (fA Y (sbF n swG X)) a := hB.small fun p q => cst_and q (cst_sw n8 p)
  have s4 : uq (n - 2) ≤ e ∨ Cst (fA Y (sbF n swG X)) := hB.ex fun p q => cst_and q (cst_sw n8 p)
  unfold rlV
  go_enter Tryz.func63, Tryz.ntmps63
  go_upto_region 1 with fail
  have i1 := IsRl.new w S y
  have B1 := nb w (.cells #[.pointer (some ⟨S, 0, none⟩), .int .u32 (y : Int)] 101)
  have x1 := h.below B1
  have u1 : Aside (Out w (w.alloc (.cells #[.pointer (some ⟨S, 0, none⟩), .int .u32 (y : Int)] 101))) := Out.below B1
  clear B1 h
  generalize w.alloc (.cells #[.pointer (some ⟨S, 0, none⟩), .int .u32 (y : Int)] 101) = w1 at i1 x1 u1 ⊢
  obtain ⟨g, hg⟩ : ∃ g, w.heap.size = g := ⟨_, rfl⟩
  rw [hg] at i1
  conv in (occs := *) (Value.pointer (some ⟨w.heap.size, 0, none⟩)) => all_goals rw [hg]
  clear hg
  obtain ⟨C0, C1⟩ := i1.cells
  have K1 := turned_c x1 h2 hx y a (hB.small fun p q => cst_sw n8 p) (by omega)
  have epA : Aside (Eqt (exQ (mkN 170 n) (fA Y (sbF n swG X))) (prevF X Y)) := ep
  have hyA : Aside ((y, Y) ∈ l) := hy
  unfold rlV at K1
  clear hx hy hB ep cX
  go_upto_region 4 with (first
    | (go_at_call 83; refine K1.mono ?_; clear K1; rintro e' w2 ⟨z, rfl, x2, u2⟩))
  have i2 := i1.out u2
  have u2A : Aside (Out w w2) := u1.out.trans u2
  have K2 := met_c x2 (x := z) (.head _) (.tail _ hyA.out) 170 (by decide) a e s3 s4 (by omega)
  unfold rlV at K2
  clear i1 x1 u1 C0 C1 u2 x2 s3 s4
  obtain ⟨C0, C1⟩ := i2.cells
  go_wp2_with (first
    | (go_at_call 82; refine K2.mono ?_; clear K2; rintro e' w3 ⟨z3, rfl, x3, u3⟩))
  go_ret2
  exact (LeftX.drop u2A.out epA.out ⟨z3, rfl, x3, u3⟩).up (by omega)
set_option maxRecDepth 100000 in
set_option maxHeartbeats 1000000 in
theorem more_c (h : Sx W w S n r l b) (h2 : n % 2 = 0) (hx : (x, X) ∈ l) (hy : (y, Y) ∈ l) (hB : Bud n a e X Y) (hb : b + (a + e + a + a) + 19 ≤ r) :
    Calls Tryz.prog 49 #[rlV S y, .int .u32 (x : Int)] w (LeftX W S n r l (b + (a + e + a + a)) (fun z => X z || nextF X Y z) w) := by
  have n8 := h.n8
  have s3 : Small n (fO X (nextF X Y)) a := hB.small fun p q => cst_or p (nx_cst p q)
  unfold rlV
  go_enter Tryz.func49, Tryz.ntmps49
  go_upto_region 1 with fail
  have i1 := IsRl.new w S y
  have B1 := nb w (.cells #[.pointer (some ⟨S, 0, none⟩), .int .u32 (y : Int)] 101)
  have x1 := h.below B1
  have u1 : Aside (Out w (w.alloc (.cells #[.pointer (some ⟨S, 0, none⟩), .int .u32 (y : Int)] 101))) := Out.below B1
  clear B1 h
  generalize w.alloc (.cells #[.pointer (some ⟨S, 0, none⟩), .int .u32 (y : Int)] 101) = w1 at i1 x1 u1 ⊢
  obtain ⟨g, hg⟩ : ∃ g, w.heap.size = g := ⟨_, rfl⟩
  rw [hg] at i1
  conv in (occs := *) (Value.pointer (some ⟨w.heap.size, 0, none⟩)) => all_goals rw [hg]
  clear hg
  obtain ⟨C0, C1⟩ := i1.cells
  have K1 := next_c x1 h2 hx hy hB (by omega)
  have hxA : Aside ((x, X) ∈ l) := hx
  unfold rlV at K1
  clear hx hy hB
  go_upto_region 4 with (first
    | (go_at_call 62; refine K1.mono ?_; clear K1; rintro e' w2 ⟨z, rfl, x2, u2⟩))
  have i2 := i1.out u2
  have u2A : Aside (Out w w2) := u1.out.trans u2
  have K2 := or_c x2 (x := x) (y := z) (.tail _ hxA.out) (.head _) a s3 (by omega)
  clear i1 x1 u1 C0 C1 u2 x2 s3
  obtain ⟨C0, C1⟩ := i2.cells
  go_wp2_with (first
    | (go_at_call 13; refine K2.mono ?_; clear K2; rintro e' w3 ⟨z3, rfl, x3, u3⟩))
  go_ret2
  exact (LeftX.drop u2A.out (Eqt.refl _) ⟨z3, rfl, x3, u3⟩).up (by omega)
/-! ## States that fit -/
def curB (X : Nat → Bool) : Bool := decide (Rf.supUpto X 8 &&& 170 = 0)
theorem cur_iff : curB X = true ↔ Cur X := by
  unfold curB
  rw [decide_eq_true_iff]
  have hb : ∀ j, (Rf.supUpto X 8 &&& 170).testBit j = (decide (j < 8) && hangs X j && Nat.testBit 170 j) := fun j => by rw [Nat.testBit_and, sup_bit]
  constructor
  · intro h
    have off : ∀ i, i < 4 → Eqt (fixF X (2 * i + 1) false) (fixF X (2 * i + 1) true) := fun i hi => by
      have := hb (2 * i + 1)
      rw [h, Nat.zero_testBit, (b170 hi).2, Bool.and_true, decide_eq_true (show 2 * i + 1 < 8 by omega), Bool.true_and] at this
      by_cases c : Eqt (fixF X (2 * i + 1) false) (fixF X (2 * i + 1) true)
      · exact c
      · rw [hangs_iff.2 c] at this; cases this
    have flip : ∀ i, i < 4 → ∀ x, x < 256 → ∀ c, X (fixAt (2 * i + 1) c x) = X x := fun i hi x hx c => by
      have e := off i hi x hx
      have e : X (fixAt (2 * i + 1) false x) = X (fixAt (2 * i + 1) true x) := e
      have s := fixAt_same hx (show 2 * i + 1 < 8 by omega)
      cases q : x.testBit (2 * i + 1) with
      | false =>
        rw [q] at s
        cases c with
        | false => rw [s]
        | true => rw [← e, s]
      | true =>
        rw [q] at s
        cases c with
        | false => rw [e, s]
        | true => rw [s]
    intro x y hx hy q
    have step : ∀ i, i ≤ 4 → ∃ z, z < 256 ∧ X z = X x ∧ ∀ j, j < 8 → z.testBit j = if j % 2 = 1 ∧ j < 2 * i then y.testBit j else x.testBit j := by
      intro i
      induction i with
      | zero => exact fun _ => ⟨x, hx, rfl, fun j _ => by rw [if_neg (by omega)]⟩
      | succ i ih =>
        intro hi
        obtain ⟨z, hz, e, hj⟩ := ih (by omega)
        refine ⟨fixAt (2 * i + 1) (y.testBit (2 * i + 1)) z, (fixAt_bits hz (by omega) _).1, (flip i (by omega) z hz _).trans e, fun j hj8 => ?_⟩
        rw [fix_bit hz (by omega)]
        by_cases c : j = 2 * i + 1
        · rw [if_pos c, if_pos (by omega), c]
        · rw [if_neg c, hj j hj8]
          by_cases d : j % 2 = 1 ∧ j < 2 * i
          · rw [if_pos d, if_pos (by omega)]
          · rw [if_neg d, if_neg (by omega)]
    obtain ⟨z, hz, e, hj⟩ := step 4 (Nat.le_refl _)
    rw [← e]
    refine congrArg X (num_same hz hy fun j hj8 => ?_)
    rw [hj j hj8]
    by_cases d : j % 2 = 1 ∧ j < 2 * 4
    · rw [if_pos d]
    · rw [if_neg d]
      obtain ⟨i, hi, rfl⟩ : ∃ i, i < 4 ∧ j = 2 * i := ⟨j / 2, by omega, by omega⟩
      exact q i hi
  · intro h
    refine Nat.eq_of_testBit_eq fun j => ?_
    rw [hb, Nat.zero_testBit]
    by_cases c : j < 8
    · rcases even_of c with ⟨i, hi, rfl⟩ | ⟨i, hi, rfl⟩
      · rw [(b170 hi).1, Bool.and_false]
      · rw [hangs_not fun v x hx => ?_, Bool.and_false, Bool.false_and]
        refine h _ x (fixAt_bits hx (by omega) v).1 hx fun k hk => ?_
        rw [fix_bit hx (by omega), if_neg (by omega)]
    · rw [decide_eq_false c, Bool.false_and, Bool.false_and]
end
end Go.Proofs.YtdjjelknjojnfaaGreat
