/-
  Package rel: Pair.
-/
import Derived.Test.YtdjjelknjojnfaaGreatRlB
import Derived.Deep.LoopGhost
namespace Go.Proofs.YtdjjelknjojnfaaGreat
open Go Go.RowKit
open Rf (fixAt fixF)

/-- The mask of the levels from j on. -/
def upM (n j : Nat) : Nat := 2 ^ n - 2 ^ j
theorem upM_bit {n j v : Nat} (hn : n ≤ 8) (hj : j ≤ n) (hv : v < 8) : (upM n j).testBit v = (decide (j ≤ v) && decide (v < n)) := by
  have h := below16 (n := n) (fun n => (List.range 9).all fun j => !decide (j ≤ n) || (List.range 8).all fun v => (upM n j).testBit v == (decide (j ≤ v) && decide (v < n))) 9 (by kernel_rfl) (by omega)
  have h := below16 (n := j) (fun j => !decide (j ≤ n) || (List.range 8).all fun v => (upM n j).testBit v == (decide (j ≤ v) && decide (v < n))) 9 h (by omega)
  rw [decide_eq_true hj, Bool.not_true, Bool.false_or] at h
  have := below16 (n := v) (fun v => (upM n j).testBit v == (decide (j ≤ v) && decide (v < n))) 8 h hv
  simpa using this
/-- The function of the levels from j on. -/
def upC (n q j : Nat) : Nat → Bool := cubeF (upM n j) q
theorem upC_iff {n q j x : Nat} (hn : n ≤ 8) (hj : j ≤ n) : upC n q j x = true ↔ ∀ v, j ≤ v → v < n → x.testBit v = q.testBit v := by
  unfold upC
  rw [cubeF_iff]
  constructor
  · intro h v h1 h2
    exact h v (by omega) (by rw [upM_bit hn hj (by omega), decide_eq_true h1, decide_eq_true h2]; rfl)
  · intro h v hv hm
    rw [upM_bit hn hj hv, Bool.and_eq_true, decide_eq_true_iff, decide_eq_true_iff] at hm
    exact h v hm.1 hm.2
theorem upC_cub (n q j : Nat) : Cub (upC n q j) := .inr ⟨_, _, Eqt.refl _⟩
theorem upC_top {n q : Nat} (hn : n ≤ 8) : Eqt c1 (upC n q n) := fun x _ => ((upC_iff hn (Nat.le_refl n)).2 fun v h1 h2 => absurd h2 (by omega)).symm
theorem upC_step {n q j : Nat} (hn : n ≤ 8) (hj : j < n) : Eqt (fI (Rf.M j) (if q.testBit j = true then upC n q (j + 1) else c0) (if q.testBit j = true then c0 else upC n q (j + 1))) (upC n q j) := fun x _ => by
  show (if Rf.M j x then _ else _) = _
  rw [← Rf.M_bit]
  have key : upC n q j x = (decide (x.testBit j = q.testBit j) && upC n q (j + 1) x) := by
    rw [Bool.eq_iff_iff, Bool.and_eq_true, upC_iff hn (by omega), upC_iff hn (by omega), decide_eq_true_iff]
    constructor
    · intro h
      exact ⟨h j (Nat.le_refl _) hj, fun v h1 h2 => h v (by omega) h2⟩
    · rintro ⟨h0, h⟩ v h1 h2
      by_cases c : v = j
      · subst c; exact h0
      · exact h v (by omega) h2
  rw [key]
  cases x.testBit j <;> cases q.testBit j <;> rfl
theorem var_cub (v : Nat) : Cub (Rf.M v) := by
  by_cases hv : v < 8
  · refine .inr ⟨2 ^ v, 2 ^ v, fun x hx => ?_⟩
    rw [Bool.eq_iff_iff, cubeF_iff, ← Rf.M_bit]
    constructor
    · intro h u hu hm
      rw [Nat.testBit_two_pow, decide_eq_true_iff] at hm
      subst hm
      rw [h, Nat.testBit_two_pow, decide_eq_true rfl]
    · intro h
      rw [h v hv (by rw [Nat.testBit_two_pow, decide_eq_true rfl]), Nat.testBit_two_pow, decide_eq_true rfl]
  · refine .inl fun x hx => ?_
    rw [← Rf.M_bit]
    exact Nat.testBit_lt_two_pow (Nat.lt_of_lt_of_le hx (Nat.pow_le_pow_right (n := 2) (i := 8) (by omega) (by omega)))
def Few (n c : Nat) : Prop := 8 ≤ c ∨ 2 ^ (n - 2) ≤ c + 1
theorem Few.cub {n c : Nat} (h : Few n c) {X : Nat → Bool} (k : Cub X) : Small n X c := by
  rcases h with h | h
  · exact .inr (.inr ⟨h, k⟩)
  · exact .inl h
section
variable {W w w' : World} {S n r b x y : Nat} {l : Kl} {X Y : Nat → Bool}
set_option maxRecDepth 100000 in
set_option maxHeartbeats 1000000 in
theorem where_c (h : Sx W w S n r l b) (hx : (x, X) ∈ l) {v : Nat} (hv : v < n) (bt : Bool) (c : Nat) (h1 : Small n (Rf.M v) c) (h3 : Small n (fI (Rf.M v) (if bt = true then X else c0) (if bt = true then c0 else X)) c) (hb : b + c + c + 19 ≤ r) :
    Calls Tryz.prog 43 #[.pointer (some ⟨S, 0, none⟩), .int .u32 (x : Int), .int .i64 (v : Int), .int .u8 (if bt = true then 1 else 0)] w (LeftX W S n r l (b + c + c) (fI (Rf.M v) (if bt = true then X else c0) (if bt = true then c0 else X)) w) := by
  have h0 := h.consts
  have K1 := var_c h0 hv c h1 (by omega)
  have hxA : Aside ((x, X) ∈ l) := hx
  have h3A : Aside (Small n (fI (Rf.M v) (if bt = true then X else c0) (if bt = true then c0 else X)) c) := h3
  clear h hx h1 h3 h0
  cases bt with
  | false =>
    rw [if_neg Bool.false_ne_true] at h3A ⊢
    rw [if_neg Bool.false_ne_true] at h3A ⊢
    rw [if_neg Bool.false_ne_true]
    go_enter Tryz.func43, Tryz.ntmps43
    go_upto_region 6 with (first
      | (go_at_call 72; refine K1.mono ?_; clear K1; rintro e w1 ⟨z, rfl, x1, u1⟩))
    have B2 := nb w1 (.cells #[.int .u32 (x : Int), .int .u32 0] 129)
    have x2 := x1.below B2
    have u2A : Aside (Out w (w1.alloc (.cells #[.int .u32 (x : Int), .int .u32 0] 129))) := u1.trans (Out.below B2)
    have K2 : Calls Tryz.prog 73 #[.pointer (some ⟨S, 0, none⟩), .int .u32 (z : Int), .int .u32 0, .int .u32 (x : Int)] _ _ := ite_c x2 (x := z) (y := 0) (z := x) (X := Rf.M v) (Y := c0) (Z := X) (.head _) (.tail _ (.head _)) (.tail _ (.tail _ (.tail _ hxA.out))) c h3A.out (by omega)
    clear B2 x1 u1 x2
    go_wp2_with (first
      | (go_at_call 73; refine K2.mono ?_; clear K2; rintro e w3 ⟨z3, rfl, x3, u3⟩))
    go_ret2
    exact ⟨z3, rfl, x3.mono (fun p hp => by
      rcases List.mem_cons.1 hp with rfl | hp
      · exact .head _
      · exact .tail _ (.tail _ (.tail _ (.tail _ hp)))), u2A.out.trans u3⟩
  | true =>
    rw [if_pos rfl] at h3A ⊢
    rw [if_pos rfl] at h3A ⊢
    rw [if_pos rfl]
    go_enter Tryz.func43, Tryz.ntmps43
    go_upto_region 6 with (first
      | (go_at_call 72; refine K1.mono ?_; clear K1; rintro e w1 ⟨z, rfl, x1, u1⟩))
    have B2 := nb w1 (.cells #[.int .u32 0, .int .u32 (x : Int)] 129)
    have x2 := x1.below B2
    have u2A : Aside (Out w (w1.alloc (.cells #[.int .u32 0, .int .u32 (x : Int)] 129))) := u1.trans (Out.below B2)
    have K2 : Calls Tryz.prog 73 #[.pointer (some ⟨S, 0, none⟩), .int .u32 (z : Int), .int .u32 (x : Int), .int .u32 0] _ _ := ite_c x2 (x := z) (y := x) (z := 0) (X := Rf.M v) (Y := X) (Z := c0) (.head _) (.tail _ (.tail _ (.tail _ hxA.out))) (.tail _ (.head _)) c h3A.out (by omega)
    clear B2 x1 u1 x2
    go_wp2_with (first
      | (go_at_call 73; refine K2.mono ?_; clear K2; rintro e w3 ⟨z3, rfl, x3, u3⟩))
    go_ret2
    exact ⟨z3, rfl, x3.mono (fun p hp => by
      rcases List.mem_cons.1 hp with rfl | hp
      · exact .head _
      · exact .tail _ (.tail _ (.tail _ (.tail _ hp)))), u2A.out.trans u3⟩
/-! ## Pair -/
theorem jn_bit {p q v : Nat} (hp : p < 16) (hq : q < 16) (hv : v < 8) : (jnN p q).testBit v = (if v % 2 = 0 then p else q).testBit (v / 2) := by
  obtain ⟨j1, j2⟩ := jn_half p q hp hq
  rcases even_of hv with ⟨i, hi, rfl⟩ | ⟨i, hi, rfl⟩
  · rw [if_pos (by omega), show 2 * i / 2 = i by omega, ← half_bit _ (jn_lt _ _) i hi, j1]
  · rw [if_neg (by omega), show (2 * i + 1) / 2 = i by omega, ← div_bit, ← half_bit _ (by have := jn_lt p q; omega) i hi, j2]
theorem bit_u8 (m v : Nat) (hm : m < 256) : bits .and .u8 ((m : Int) / 2 ^ v) 1 = (if m.testBit v = true then 1 else 0 : Int) := by
  have e : (m : Int) / 2 ^ v = ((m / 2 ^ v : Nat) : Int) := by push_cast; rfl
  have l : m / 2 ^ v < 256 := Nat.lt_of_le_of_lt (Nat.div_le_self _ _) hm
  rw [e, show (1 : Int) = ((1 : Nat) : Int) from rfl, u8_and_nat _ _ (by omega) (by decide), Nat.and_one_is_mod, Nat.testBit_eq_decide_div_mod_eq]
  have : m / 2 ^ v % 2 = 0 ∨ m / 2 ^ v % 2 = 1 := by omega
  rcases this with h | h
  · rw [h]; rfl
  · rw [h]; rfl
theorem pw_half {n : Nat} (h : n ≤ 8) : 2 ^ (n / 2) ≤ 16 := Nat.pow_le_pow_right (n := 2) (j := 4) (by omega) (by omega)
theorem or_shr0 {p q k : Nat} (hp : p < 2 ^ k) (hq : q < 2 ^ k) : ((p ||| q : Nat) : Int) / 2 ^ k = 0 := by
  have h := Nat.or_lt_two_pow hp hq
  have e : ((p ||| q : Nat) : Int) / 2 ^ k = (((p ||| q) / 2 ^ k : Nat) : Int) := by push_cast; rfl
  rw [e, Nat.div_eq_of_lt h]
  rfl
theorem or_shr1 {p q k : Nat} (h : 2 ^ k ≤ p ∨ 2 ^ k ≤ q) : ¬ ((p ||| q : Nat) : Int) / 2 ^ k = 0 := by
  have e : ((p ||| q : Nat) : Int) / 2 ^ k = (((p ||| q) / 2 ^ k : Nat) : Int) := by push_cast; rfl
  have l : 2 ^ k ≤ p ||| q := by
    rcases h with h | h
    · exact Nat.le_trans h Nat.left_le_or
    · exact Nat.le_trans h Nat.right_le_or
  have : 0 < (p ||| q) / 2 ^ k := Nat.div_pos l (Nat.pow_pos (by omega))
  rw [e]
  omega
set_option maxRecDepth 100000 in
set_option maxHeartbeats 1000000 in
theorem pair_odd (h : Sx W w S n r l b) (h2 : n % 2 = 1) (p q : Int) :
    Calls Tryz.prog 12 #[.pointer (some ⟨S, 0, none⟩), .int .u8 p, .int .u8 q] w fun e w' => e = .returned (.tuple #[.int .u32 0, .int .i64 160]) ∧ w' = w := by
  have K := odd_x h true (decide_eq_true h2)
  clear h h2
  go_enter Tryz.func12, Tryz.ntmps12
  go_wp2_with (first
    | (go_at_call 41; refine K.mono ?_; clear K; rintro e w1 ⟨rfl, e1⟩; subst w1))
  go_ret2
  exact ⟨rfl, rfl⟩
set_option maxRecDepth 100000 in
set_option maxHeartbeats 1000000 in
theorem pair_var (h : Sx W w S n r l b) (h2 : n % 2 = 0) (p q : Nat) (hp : p < 256) (hq : q < 256) (no : 2 ^ (n / 2) ≤ p ∨ 2 ^ (n / 2) ≤ q) :
    Calls Tryz.prog 12 #[.pointer (some ⟨S, 0, none⟩), .int .u8 (p : Int), .int .u8 (q : Int)] w fun e w' => e = .returned (.tuple #[.int .u32 0, .int .i64 40]) ∧ w' = w := by
  have n8 := h.n8
  have K := odd_x h false (decide_eq_false (by omega))
  have KV := vars_x h
  have hor : bits .or .u8 (p : Int) (q : Int) = ((p ||| q : Nat) : Int) := u8_or_nat _ _ hp hq
  have hd : Int.tdiv (n : Int) 2 = ((n / 2 : Nat) : Int) := by rw [Int.tdiv_eq_ediv_of_nonneg (by omega)]; omega
  have hd2 : (n : Int) / 2 = ((n / 2 : Nat) : Int) := by omega
  have nz := or_shr1 no
  have hk : n / 2 ≤ 4 := by omega
  generalize n / 2 = k at hd hd2 nz hk
  generalize p ||| q = m at hor nz
  have k8 : min k 8 = k := by omega
  clear h h2 no n8
  go_enter Tryz.func12, Tryz.ntmps12
  go_wp2_with (first
    | (go_at_call 41; refine K.mono ?_; clear K; rintro e w1 ⟨rfl, e1⟩; subst w1)
    | (go_at_call 42; refine KV.mono ?_; clear KV; rintro e w1 ⟨rfl, e1⟩; subst w1))
  go_ret2
  exact ⟨rfl, rfl⟩
def IsSt (w : World) (g p q : Nat) : Prop := w.heap[g]? = some (.cells #[.int .u8 (p : Int), .int .u8 (q : Int)] 89 (0, 0))
theorem IsSt.get {g p q v : Nat} (h : IsSt w g p q) : w.cell? ⟨g, v % 2, none⟩ = some (.int .u8 ((if v % 2 = 0 then p else q : Nat) : Int)) := by
  unfold IsSt at h
  rw [cell_of_row _ _ _ _ _ _ h]
  have : v % 2 = 0 ∨ v % 2 = 1 := by omega
  rcases this with e | e <;> rw [e] <;> rfl
theorem IsSt.out {g p q : Nat} (h : IsSt w g p q) (o : Out w w') : IsSt w' g p q := o _ _ _ _ h (by decide)
set_option maxRecDepth 100000 in
set_option maxHeartbeats 2000000 in
theorem pair_c (h : Sx W w S n r l b) (h2 : n % 2 = 0) {p q : Nat} (hp : p < 2 ^ (n / 2)) (hq : q < 2 ^ (n / 2)) (c : Nat) (hc : Few n c) (hb : b + n * (c + c) + 19 ≤ r) :
    Calls Tryz.prog 12 #[.pointer (some ⟨S, 0, none⟩), .int .u8 (p : Int), .int .u8 (q : Int)] w (LeftX W S n r l (b + n * (c + c)) (upC n (jnN p q) 0) w) := by
  have n8 := h.n8
  have np := h.pos
  have n16 := pw_half n8
  have p16 : p < 16 := by omega
  have q16 : q < 16 := by omega
  have K := odd_x h false (decide_eq_false (by omega))
  have KV := vars_x h
  have hor : bits .or .u8 (p : Int) (q : Int) = ((p ||| q : Nat) : Int) := u8_or_nat _ _ (by omega) (by omega)
  have hd : Int.tdiv (n : Int) 2 = ((n / 2 : Nat) : Int) := by rw [Int.tdiv_eq_ediv_of_nonneg (by omega)]; omega
  have hd2 : (n : Int) / 2 = ((n / 2 : Nat) : Int) := by omega
  have nz := or_shr0 hp hq
  have hk : n / 2 ≤ 4 := by omega
  generalize n / 2 = k at hd hd2 nz hk
  generalize p ||| q = m at hor nz
  have k8 : min k 8 = k := by omega
  have KW : Aside (∀ (u : World) (z v i : Nat), v < n → i + (v + 1) = n → Sx W u S n r ((z, upC n (jnN p q) (v + 1)) :: l) (b + i * (c + c)) → Calls Tryz.prog 43 #[.pointer (some ⟨S, 0, none⟩), .int .u32 (z : Int), .int .i64 (v : Int), .int .u8 (if (jnN p q).testBit v = true then 1 else 0)] u fun e u' => ∃ z' : Nat, e = .returned (.tuple #[.int .u32 (z' : Int), .int .i64 0]) ∧ Sx W u' S n r ((z', upC n (jnN p q) v) :: l) (b + (i + 1) * (c + c)) ∧ Out u u') := fun u z v i hv hi su => by
    have e1 : (i + 1) * (c + c) = i * (c + c) + (c + c) := Nat.succ_mul _ _
    have e2 : (i + 1) * (c + c) ≤ n * (c + c) := Nat.mul_le_mul_right _ (by omega)
    have st := upC_step (q := jnN p q) n8 hv
    refine (where_c su (.head _) hv ((jnN p q).testBit v) c (hc.cub (var_cub v)) (hc.cub ((upC_cub n (jnN p q) v).congr st.symm)) (by omega)).mono ?_
    rintro e u' ⟨z', rfl, x', o⟩
    exact ⟨z', rfl, ((x'.like st).more (by omega)).mono (fun a ha => by
      rcases List.mem_cons.1 ha with rfl | ha
      · exact .head _
      · exact .tail _ (.tail _ ha)), o⟩
  have bitA : Aside (∀ v, v < 8 → bits .and .u8 (((if v % 2 = 0 then p else q : Nat) : Int) / 2 ^ (v / 2)) 1 = (if (jnN p q).testBit v = true then 1 else 0 : Int)) := fun v hv => by
    rw [jn_bit p16 q16 hv]
    exact bit_u8 _ _ (by split <;> omega)
  have x0 : Aside (∀ u, Below w.heap.size w u → Sx W u S n r ((1, upC n (jnN p q) n) :: l) (b + 0 * (c + c))) := fun u B => by
    have := ((h.below B).consts).mono (l' := (1, c1) :: l) fun a ha => by
      rcases List.mem_cons.1 ha with rfl | ha
      · exact .tail _ (.head _)
      · exact .tail _ (.tail _ ha)
    exact (this.like (upC_top n8)).more (Nat.le_add_right _ _)
  have nA : Aside (n ≤ 8) := n8
  clear h h2 hp hq hc hb n16 p16 q16
  go_enter Tryz.func12, Tryz.ntmps12
  have KV2 : Aside (∀ u, Below w.heap.size w u → Calls Tryz.prog 42 #[.pointer (some ⟨S, 0, none⟩)] u fun e w' => e = .returned (.int .i64 (n : Int)) ∧ w' = u) := fun u B => vars_x (x0.out u B)
  go_upto_region 7 with (first
    | (go_at_call 41; refine K.mono ?_; clear K; rintro e w1 ⟨rfl, e1⟩; subst w1)
    | (go_at_call 42; refine KV.mono ?_; clear KV; rintro e w1 ⟨rfl, e1⟩; subst w1))
  have B1 := nb w (.cells #[.int .u8 (p : Int), .int .u8 (q : Int)] 89)
  have i1 : IsSt (w.alloc (.cells #[.int .u8 (p : Int), .int .u8 (q : Int)] 89)) w.heap.size p q := Go.Deep.blk_alloc_new _ _
  have K1 := KV2.out _ B1
  have x1 : Aside (Sx W (w.alloc (.cells #[.int .u8 (p : Int), .int .u8 (q : Int)] 89)) S n r ((1, upC n (jnN p q) n) :: l) (b + 0 * (c + c))) := x0.out _ B1
  have u1 : Aside (Out w (w.alloc (.cells #[.int .u8 (p : Int), .int .u8 (q : Int)] 89))) := Out.below B1
  have i1A : Aside (IsSt (w.alloc (.cells #[.int .u8 (p : Int), .int .u8 (q : Int)] 89)) w.heap.size p q) := i1
  clear B1 KV2 x0 hd hd2 nz hk hor k8 i1
  generalize w.alloc (.cells #[.int .u8 (p : Int), .int .u8 (q : Int)] 89) = w2 at K1 x1 u1 i1A ⊢
  generalize w.heap.size = g at i1A ⊢
  go_upto_region 8 with (first
    | (go_at_call 42; refine K1.mono ?_; clear K1; rintro e w1 ⟨rfl, e1⟩; subst w1))
  go_loopg [11, 9, 10] n (fun gn s11 s9 s10 wr => ∃ (v : Int) (z i : Nat), v + 1 = (gn : Int) ∧ i + gn = n ∧ s11 = .int .i64 v ∧ s9 = .int .u32 (z : Int) ∧ s10 = .int .i64 0 ∧ Aside (Sx W wr S n r ((z, upC n (jnN p q) gn) :: l) (b + i * (c + c))) ∧ Aside (IsSt wr g p q) ∧ Aside (Out w wr))
  case atStart => exact ⟨(n : Int) - 1, 1, 0, by omega, by omega, by go_num, rfl, rfl, x1, i1A, u1⟩
  case round =>
    clear x1 i1A u1
    obtain ⟨v, z, i, hv, hi, rfl, rfl, rfl, hX, hI, hU⟩ := hrel
    have n8 := nA.out
    cases gk with
    | zero =>
      obtain rfl : v = -1 := by omega
      obtain rfl : i = n := by omega
      clear hv hi KW bitA hI n8 np
      go_wp2_with fail
      go_ret2
      exact ⟨z, rfl, hX.out, hU.out⟩
    | succ v' =>
      obtain rfl : v = (v' : Int) := by omega
      have hiA : Aside (i + (v' + 1) = n) := hi
      have K2 := KW.out wr z v' i (by omega) hi hX.out
      have bt := bitA.out v' (by omega)
      have c0 := hI.out.get (v := v')
      have t1 : Int.tmod (v' : Int) 2 = ((v' % 2 : Nat) : Int) := by rw [Int.tmod_eq_emod_of_nonneg (by omega)]; omega
      have t2 : Int.tdiv (v' : Int) 2 = ((v' / 2 : Nat) : Int) := by rw [Int.tdiv_eq_ediv_of_nonneg (by omega)]; omega
      have t3 : (v' : Int) % 2 = ((v' % 2 : Nat) : Int) := by omega
      have t4 : (v' : Int) / 2 = ((v' / 2 : Nat) : Int) := by omega
      have v0 : (0 : Int) ≤ (v' : Int) := by omega
      have v8 : (v' : Int) ≤ 8 := by omega
      have l2 : v' % 2 < 2 := by omega
      have l4 : v' / 2 ≤ 4 := by omega
      generalize (if v' % 2 = 0 then p else q) = sv at c0 bt
      generalize v' % 2 = vm at t1 t3 c0 l2
      generalize v' / 2 = vd at t2 t4 bt l4
      have vd8 : min vd 8 = vd := by omega
      have vm2 : (vm : Int) < 2 := by omega
      generalize (if (jnN p q).testBit v' = true then (1 : Int) else 0) = bb at bt K2
      clear hv hi KW bitA n8 np
      go_wp2_with (first
        | (go_at_call 43; refine K2.mono ?_; clear K2; rintro e w3 ⟨z3, rfl, x3, u3⟩))
      go_roundg v'
      case measure => omega
      case rel =>
        have := hiA.out
        exact ⟨(v' : Int) - 1, z3, i + 1, by omega, by omega, by go_num, rfl, rfl, x3, hI.out.out u3, hU.out.trans u3⟩
end
end Go.Proofs.YtdjjelknjojnfaaGreat
