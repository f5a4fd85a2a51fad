/-
  How often, on what, where first a node's function is true, told from the constants up; which nodes are reached. No program is walked here.
-/
import Derived.Test.YteickckgljlacaaGreatLgc
namespace Go.Proofs.YteickckgljlacaaGreat
open Rf (fixAt fixF countUpto supUpto same)

/-! ## How often -/
theorem cnt_congr {F G : Nat → Bool} : ∀ (k : Nat), (∀ x, x < k → F x = G x) → countUpto F k = countUpto G k
  | 0, _ => rfl
  | k + 1, h => by rw [countUpto, countUpto, cnt_congr k (fun x hx => h x (by omega)), h k (by omega)]
theorem cnt_add (F : Nat → Bool) (a : Nat) : ∀ b, countUpto F (a + b) = countUpto F a + countUpto (fun x => F (a + x)) b
  | 0 => rfl
  | b + 1 => by rw [← Nat.add_assoc, countUpto, countUpto, cnt_add F a b]; omega
theorem cnt_two (F : Nat → Bool) (k : Nat) : countUpto F (2 ^ (k + 1)) = countUpto F (2 ^ k) + countUpto (fun x => F (2 ^ k + x)) (2 ^ k) := by
  rw [show 2 ^ (k + 1) = 2 ^ k + 2 ^ k by rw [Nat.pow_succ]; omega, cnt_add]
theorem cnt_le (F : Nat → Bool) : ∀ k, countUpto F k ≤ k := Rf.count_le F
theorem fix_far : ((List.range 8).all fun k => (List.range k).all fun v => (List.range (2 ^ k)).all fun x => [true, false].all fun b => fixAt v b (2 ^ k + x) == 2 ^ k + fixAt v b x) = true := by kernel_rfl
theorem fix_at (b : Bool) {k v x : Nat} (hk : k < 8) (hv : v < k) (hx : x < 2 ^ k) : fixAt v b (2 ^ k + x) = 2 ^ k + fixAt v b x := by
  have h1 := List.all_eq_true.1 fix_far k (List.mem_range.2 hk)
  have h2 := List.all_eq_true.1 h1 v (List.mem_range.2 hv)
  have h3 := List.all_eq_true.1 h2 x (List.mem_range.2 hx)
  have h4 := List.all_eq_true.1 h3 b (by cases b <;> simp)
  exact beq_iff_eq.1 h4
theorem fix_near : ((List.range 8).all fun k => (List.range (2 ^ k)).all fun x => (fixAt k false x == x) && (fixAt k true x == 2 ^ k + x) && (fixAt k false (2 ^ k + x) == x) && (fixAt k true (2 ^ k + x) == 2 ^ k + x)) = true := by kernel_rfl
theorem fix_top {k x : Nat} (hk : k < 8) (hx : x < 2 ^ k) : fixAt k false x = x ∧ fixAt k true x = 2 ^ k + x ∧ fixAt k false (2 ^ k + x) = x ∧ fixAt k true (2 ^ k + x) = 2 ^ k + x := by
  have h1 := List.all_eq_true.1 fix_near k (List.mem_range.2 hk)
  have h2 := List.all_eq_true.1 h1 x (List.mem_range.2 hx)
  simp only [Bool.and_eq_true, beq_iff_eq] at h2
  exact ⟨h2.1.1.1, h2.1.1.2, h2.1.2, h2.2⟩
theorem pow_pos2 (k : Nat) : 0 < 2 ^ k := Nat.two_pow_pos k
/-- It is true as often as its two halves together, each halved. -/
theorem cnt_halves : ∀ (n v : Nat) (F : Nat → Bool), n ≤ 8 → v < n → 2 * countUpto F (2 ^ n) = countUpto (fixF F v false) (2 ^ n) + countUpto (fixF F v true) (2 ^ n) ∧ countUpto (fixF F v false) (2 ^ n) % 2 = 0 ∧ countUpto (fixF F v true) (2 ^ n) % 2 = 0
  | 0, v, _, _, hv => absurd hv (Nat.not_lt_zero _)
  | k + 1, v, F, hn, hv => by
    rw [cnt_two, cnt_two, cnt_two]
    by_cases c : v = k
    · subst c
      have e0 : countUpto (fixF F v false) (2 ^ v) = countUpto F (2 ^ v) := cnt_congr _ fun x hx => by
        show F _ = F _
        rw [(fix_top (by omega) hx).1]
      have e1 : countUpto (fixF F v true) (2 ^ v) = countUpto (fun x => F (2 ^ v + x)) (2 ^ v) := cnt_congr _ fun x hx => by
        show F _ = F _
        rw [(fix_top (by omega) hx).2.1]
      have e2 : countUpto (fun x => fixF F v false (2 ^ v + x)) (2 ^ v) = countUpto F (2 ^ v) := cnt_congr _ fun x hx => by
        show F _ = F _
        rw [(fix_top (by omega) hx).2.2.1]
      have e3 : countUpto (fun x => fixF F v true (2 ^ v + x)) (2 ^ v) = countUpto (fun x => F (2 ^ v + x)) (2 ^ v) := cnt_congr _ fun x hx => by
        show F _ = F _
        rw [(fix_top (by omega) hx).2.2.2]
      rw [e0, e1, e2, e3]
      omega
    · have i0 := cnt_halves k v F (by omega) (by omega)
      have i1 := cnt_halves k v (fun x => F (2 ^ k + x)) (by omega) (by omega)
      have e : ∀ b, countUpto (fun x => fixF F v b (2 ^ k + x)) (2 ^ k) = countUpto (fixF (fun x => F (2 ^ k + x)) v b) (2 ^ k) := fun b => cnt_congr _ fun x hx => by
        show F _ = F _
        rw [fix_at b (by omega) (by omega) hx]
      rw [e, e]
      omega
theorem cnt_not (F : Nat → Bool) : ∀ k, countUpto F k + countUpto (fun x => !F x) k = k
  | 0 => rfl
  | k + 1 => by
    have := cnt_not F k
    rw [countUpto, countUpto]
    cases F k <;> simp <;> omega
theorem cnt_both (F G : Nat → Bool) : ∀ k, countUpto (fun x => F x && G x) k + countUpto (fun x => F x || G x) k = countUpto F k + countUpto G k
  | 0 => rfl
  | k + 1 => by
    have := cnt_both F G k
    rw [countUpto, countUpto, countUpto, countUpto]
    cases F k <;> cases G k <;> simp <;> omega
theorem cnt_none {F : Nat → Bool} : ∀ {k : Nat}, countUpto F k = 0 → ∀ x, x < k → F x = false
  | 0, _, x, hx => absurd hx (Nat.not_lt_zero _)
  | k + 1, h, x, hx => by
    rw [countUpto] at h
    by_cases c : x = k
    · subst c
      cases q : F x with
      | false => rfl
      | true => rw [q] at h; simp at h
    · exact cnt_none (k := k) (by omega) x (by omega)
theorem cnt_all {F : Nat → Bool} : ∀ {k : Nat}, countUpto F k = k → ∀ x, x < k → F x = true
  | 0, _, x, hx => absurd hx (Nat.not_lt_zero _)
  | k + 1, h, x, hx => by
    rw [countUpto] at h
    have := cnt_le F k
    by_cases c : x = k
    · subst c
      cases q : F x with
      | true => rfl
      | false => rw [q] at h; simp at h; omega
    · refine cnt_all (k := k) ?_ x (by omega)
      cases q : F k with
      | true => rw [q] at h; simp at h; omega
      | false => rw [q] at h; simp at h; omega
theorem cnt_const (b : Bool) : ∀ k, countUpto (fun _ => b) k = if b then k else 0
  | 0 => by cases b <;> rfl
  | k + 1 => by rw [countUpto, cnt_const b k]; cases b <;> simp
theorem cnt_times (F : Nat → Bool) (N : Nat) (h : ∀ x, F x = F (x % N)) : ∀ m, countUpto F (N * m) = m * countUpto F N
  | 0 => by simp [countUpto]
  | m + 1 => by
    rw [Nat.mul_succ, cnt_add, cnt_times F N h m, Nat.succ_mul]
    congr 1
    exact cnt_congr _ fun x hx => by rw [h (N * m + x), Nat.mul_add_mod, Nat.mod_eq_of_lt hx]
/-- Over fewer variables: as often as over all, divided. -/
theorem cnt_low (F : Nat → Bool) {n : Nat} (hn : n ≤ 8) (h : ∀ x, x < 256 → F x = F (x % 2 ^ n)) : countUpto F 256 / 2 ^ (8 - n) = countUpto F (2 ^ n) := by
  have e : (256 : Nat) = 2 ^ n * 2 ^ (8 - n) := by rw [← Nat.pow_add, show n + (8 - n) = 8 by omega]
  have l : 2 ^ n ≤ 256 := Nat.pow_le_pow_right (n := 2) (j := 8) (by omega) hn
  have p := pow_pos2 n
  have c : countUpto F 256 = countUpto (fun x => F (x % 2 ^ n)) 256 := cnt_congr _ h
  rw [c, e, cnt_times _ _ (fun x => by rw [Nat.mod_mod]), Nat.mul_div_cancel_left _ (pow_pos2 _)]
  exact cnt_congr _ fun x hx => by rw [Nat.mod_eq_of_lt hx]

/-! ## On what -/
theorem same_false_iff {F G : Nat → Bool} : same F G = false ↔ ¬ Eqt F G := by
  have := Rf.same_iff F G
  constructor
  · intro h e
    rw [this.2 e] at h
    cases h
  · intro h
    cases c : same F G with
    | false => rfl
    | true => exact absurd (this.1 c) h
/-- Whether a function hangs on a variable. -/
def hangs (F : Nat → Bool) (v : Nat) : Bool := !same (fixF F v false) (fixF F v true)
theorem hangs_iff {F : Nat → Bool} {v : Nat} : hangs F v = true ↔ ¬ Eqt (fixF F v false) (fixF F v true) := by
  unfold hangs
  rw [Bool.not_eq_true', same_false_iff]
theorem sup_bit (F : Nat → Bool) (j : Nat) : ∀ k, (supUpto F k).testBit j = (decide (j < k) && hangs F j)
  | 0 => by rw [supUpto, Nat.zero_testBit]; simp
  | k + 1 => by
    rw [supUpto]
    have ih := sup_bit F j k
    by_cases c : j = k
    · subst c
      cases q : same (fixF F j false) (fixF F j true) with
      | true => rw [if_pos rfl, ih]; unfold hangs; rw [q]; simp
      | false => rw [if_neg (by simp), Nat.testBit_or, ih, Nat.testBit_two_pow_self]; unfold hangs; rw [q]; simp
    · have d : decide (j < k + 1) = decide (j < k) := by
        by_cases e : j < k
        · rw [decide_eq_true e, decide_eq_true (by omega)]
        · rw [decide_eq_false e, decide_eq_false (by omega)]
      have t : (2 ^ k).testBit j = false := by rw [Nat.testBit_two_pow]; exact decide_eq_false (fun e => c e.symm)
      rw [d, ← ih]
      split
      · rfl
      · rw [Nat.testBit_or, t, Bool.or_false]
theorem hangs_congr {F G : Nat → Bool} (e : Eqt F G) {v : Nat} (hv : v < 8) : hangs F v = hangs G v := by
  have h0 := fixF_congr e hv false
  have h1 := fixF_congr e hv true
  rw [Bool.eq_iff_iff, hangs_iff, hangs_iff]
  exact ⟨fun h q => h (h0.trans (q.trans h1.symm)), fun h q => h (h0.symm.trans (q.trans h1))⟩
theorem sup_congr {F G : Nat → Bool} (e : Eqt F G) : supUpto F 8 = supUpto G 8 := by
  refine Nat.eq_of_testBit_eq fun j => ?_
  rw [sup_bit, sup_bit]
  by_cases c : j < 8
  · rw [hangs_congr e c]
  · rw [decide_eq_false c]; rfl
theorem sup_cst {F : Nat → Bool} (c : Cst F) : supUpto F 8 = 0 := by
  refine Nat.eq_of_testBit_eq fun j => ?_
  rw [sup_bit, Nat.zero_testBit]
  by_cases hj : j < 8
  · have : hangs F j = false := by
      cases q : hangs F j with
      | false => rfl
      | true =>
        refine absurd (fun x hx => ?_) (hangs_iff.1 q)
        have a := (fixAt_bits hx hj false).1
        have b := (fixAt_bits hx hj true).1
        show F _ = F _
        rcases c with c | c
        · rw [c _ a, c _ b]
        · rw [c _ a, c _ b]
    rw [this, Bool.and_false]
  · rw [decide_eq_false hj]; rfl
theorem fixAt_ext {x y : Nat} (h : x.testBit = y.testBit) : x = y := Nat.eq_of_testBit_eq fun j => congrFun h j
theorem fixAt_over {x v : Nat} (hx : x < 256) (hv : v < 8) (b c : Bool) : fixAt v b (fixAt v c x) = fixAt v b x := by
  obtain ⟨h1, h2⟩ := fixAt_bits hx hv c
  obtain ⟨h3, h4⟩ := fixAt_bits h1 hv b
  obtain ⟨h5, h6⟩ := fixAt_bits hx hv b
  refine fixAt_ext ?_
  rw [h4, h6, h2]
  funext j
  unfold Mdl.setA
  by_cases e : j = v
  · rw [if_pos e, if_pos e]
  · rw [if_neg e, if_neg e, if_neg e]
theorem fixAt_swap {x u v : Nat} (hx : x < 256) (hu : u < 8) (hv : v < 8) (ne : u ≠ v) (b c : Bool) : fixAt v b (fixAt u c x) = fixAt u c (fixAt v b x) := by
  obtain ⟨h1, h2⟩ := fixAt_bits hx hu c
  obtain ⟨h3, h4⟩ := fixAt_bits h1 hv b
  obtain ⟨h5, h6⟩ := fixAt_bits hx hv b
  obtain ⟨h7, h8⟩ := fixAt_bits h5 hu c
  refine fixAt_ext ?_
  rw [h4, h8, h2, h6]
  funext j
  unfold Mdl.setA
  by_cases e : j = v
  · rw [if_pos e, if_neg (by omega), if_pos e]
  · rw [if_neg e]
    by_cases e' : j = u
    · rw [if_pos e', if_pos e']
    · rw [if_neg e', if_neg e', if_neg e]
section
variable {M : Mdl} {h : Nat}
/-- The function of an inner node by its variable. -/
theorem tbl_at (o : M.Ok) (hm : h ∈ M.hs) (x : Nat) : M.tbl h x = if x.testBit (M.v (M.nd h).1) = true then M.tbl (M.nd h).2.2 x else M.tbl (M.nd h).2.1 x := Mdl.val_in o hm _
theorem lo_free (o : M.Ok) (hm : h ∈ M.hs) {x : Nat} (hx : x < 256) (b : Bool) : M.tbl (M.nd h).2.1 (fixAt (M.v (M.nd h).1) b x) = M.tbl (M.nd h).2.1 x := tbl_fix o (o.lo h hm).1 (o.lo h hm).2 (o.lv h hm) b x hx
theorem hi_free (o : M.Ok) (hm : h ∈ M.hs) {x : Nat} (hx : x < 256) (b : Bool) : M.tbl (M.nd h).2.2 (fixAt (M.v (M.nd h).1) b x) = M.tbl (M.nd h).2.2 x := tbl_fix o (o.hi h hm).1 (o.hi h hm).2 (o.lv h hm) b x hx
theorem ne_cst (o : M.Ok) (hm : h ∈ M.hs) : ¬ Cst (M.tbl h) := fun c => by
  have h2 := (o.range h hm).1
  rcases c with c | c
  · have := (Mdl.one_iff o (.inr hm) (.inl (show 0 < 2 by omega))).1 fun x hx => by rw [c x hx]; exact (Mdl.val_zero _).symm
    omega
  · have := (Mdl.one_iff o (.inr hm) (.inl (show 1 < 2 by omega))).1 fun x hx => by rw [c x hx]; exact (Mdl.val_one _).symm
    omega
theorem hangs_own (o : M.Ok) (hm : h ∈ M.hs) : hangs (M.tbl h) (M.v (M.nd h).1) = true := hangs_iff.2 fun e =>
  o.ne h hm ((Mdl.one_iff o (o.lo h hm).1 (o.hi h hm).1).1 fun x hx => by rw [tbl_lo o hm x hx, tbl_hi o hm x hx, e x hx])
theorem hangs_not {F : Nat → Bool} {v : Nat} (q : ∀ b, Eqt (fixF F v b) F) : hangs F v = false := by
  cases c : hangs F v with
  | false => rfl
  | true => exact absurd ((q false).trans (q true).symm) (hangs_iff.1 c)
/-- Above a node's level it hangs on nothing. -/
theorem hangs_above (o : M.Ok) (hh : M.isNode h) {i : Nat} (hi : i < M.lev h) (hn : i < M.n) : hangs (M.tbl h) (M.v i) = false := hangs_not fun b => tbl_fix o hh hi hn b
theorem hangs_out (o : M.Ok) (hh : M.isNode h) {u : Nat} (hu : M.n ≤ u) (hu8 : u < 8) : hangs (M.tbl h) u = false := hangs_not fun b x hx => by
  obtain ⟨h1, h2⟩ := fixAt_bits hx hu8 b
  refine Mdl.val_congr o _ hh (Nat.le_refl _) fun j _ hj => ?_
  rw [h2]
  exact Mdl.setA_other _ _ (by have := o.vlt j hj; omega)
theorem hangs_join (o : M.Ok) (hm : h ∈ M.hs) {u : Nat} (hu : u < 8) : hangs (M.tbl h) u = (hangs (M.tbl (M.nd h).2.1) u || hangs (M.tbl (M.nd h).2.2) u || decide (u = M.v (M.nd h).1)) := by
  have hv := v8 o (o.lv h hm)
  by_cases c : u = M.v (M.nd h).1
  · rw [decide_eq_true c, Bool.or_true, c]
    exact hangs_own o hm
  · rw [decide_eq_false c, Bool.or_false, Bool.eq_iff_iff, Bool.or_eq_true, hangs_iff, hangs_iff, hangs_iff]
    constructor
    · intro q
      by_cases c0 : Eqt (fixF (M.tbl (M.nd h).2.1) u false) (fixF (M.tbl (M.nd h).2.1) u true)
      · refine .inr fun c1 => q fun x hx => ?_
        have a := fixAt_bits hx hu false
        have b := fixAt_bits hx hu true
        show M.tbl h _ = M.tbl h _
        rw [tbl_at o hm, tbl_at o hm, a.2, b.2, Mdl.setA_other _ _ (fun e => c e.symm), Mdl.setA_other _ _ (fun e => c e.symm)]
        split
        · exact c1 x hx
        · exact c0 x hx
      · exact .inl c0
    · rintro (q | q) e
      · refine q fun x hx => ?_
        have f := fixAt_bits hx hv false
        have := e _ f.1
        have a := (fixAt_bits hx hu false).1
        have b := (fixAt_bits hx hu true).1
        show M.tbl _ (fixAt u false x) = M.tbl _ (fixAt u true x)
        rw [← lo_free o hm a false, ← lo_free o hm b false, ← fixAt_swap hx hv hu (fun e => c e.symm), ← fixAt_swap hx hv hu (fun e => c e.symm)]
        have a' := fixAt_bits f.1 hu false
        have b' := fixAt_bits f.1 hu true
        have e' : M.tbl h (fixAt u false (fixAt (M.v (M.nd h).1) false x)) = M.tbl h (fixAt u true (fixAt (M.v (M.nd h).1) false x)) := this
        rw [tbl_at o hm, tbl_at o hm, a'.2, b'.2, Mdl.setA_other _ _ (fun e => c e.symm), Mdl.setA_other _ _ (fun e => c e.symm), f.2, Mdl.setA_same] at e'
        simpa using e'
      · refine q fun x hx => ?_
        have f := fixAt_bits hx hv true
        have := e _ f.1
        have a := (fixAt_bits hx hu false).1
        have b := (fixAt_bits hx hu true).1
        show M.tbl _ (fixAt u false x) = M.tbl _ (fixAt u true x)
        rw [← hi_free o hm a true, ← hi_free o hm b true, ← fixAt_swap hx hv hu (fun e => c e.symm), ← fixAt_swap hx hv hu (fun e => c e.symm)]
        have a' := fixAt_bits f.1 hu false
        have b' := fixAt_bits f.1 hu true
        have e' : M.tbl h (fixAt u false (fixAt (M.v (M.nd h).1) true x)) = M.tbl h (fixAt u true (fixAt (M.v (M.nd h).1) true x)) := this
        rw [tbl_at o hm, tbl_at o hm, a'.2, b'.2, Mdl.setA_other _ _ (fun e => c e.symm), Mdl.setA_other _ _ (fun e => c e.symm), f.2, Mdl.setA_same] at e'
        simpa using e'
theorem sup_join (o : M.Ok) (hm : h ∈ M.hs) : supUpto (M.tbl h) 8 = (supUpto (M.tbl (M.nd h).2.1) 8 ||| supUpto (M.tbl (M.nd h).2.2) 8) ||| 2 ^ M.v (M.nd h).1 := by
  have hv := v8 o (o.lv h hm)
  refine Nat.eq_of_testBit_eq fun j => ?_
  rw [Nat.testBit_or, Nat.testBit_or, sup_bit, sup_bit, sup_bit, Nat.testBit_two_pow]
  by_cases c : j < 8
  · rw [hangs_join o hm c, decide_eq_true c, Bool.true_and, Bool.true_and, Bool.true_and]
    congr 1
    by_cases e : j = M.v (M.nd h).1
    · rw [decide_eq_true e, decide_eq_true e.symm]
    · rw [decide_eq_false e, decide_eq_false (fun q => e q.symm)]
  · rw [decide_eq_false c, decide_eq_false (show ¬ M.v (M.nd h).1 = j by omega)]
    rfl
theorem cnt_join (o : M.Ok) (hm : h ∈ M.hs) : 2 * countUpto (M.tbl h) (2 ^ M.n) = countUpto (M.tbl (M.nd h).2.1) (2 ^ M.n) + countUpto (M.tbl (M.nd h).2.2) (2 ^ M.n) ∧ countUpto (M.tbl (M.nd h).2.1) (2 ^ M.n) % 2 = 0 ∧ countUpto (M.tbl (M.nd h).2.2) (2 ^ M.n) % 2 = 0 := by
  have l : 2 ^ M.n ≤ 256 := Nat.pow_le_pow_right (n := 2) (j := 8) (by omega) o.le8
  have e0 : countUpto (M.tbl (M.nd h).2.1) (2 ^ M.n) = countUpto (fixF (M.tbl h) (M.v (M.nd h).1) false) (2 ^ M.n) := cnt_congr _ fun x hx => tbl_lo o hm x (by omega)
  have e1 : countUpto (M.tbl (M.nd h).2.2) (2 ^ M.n) = countUpto (fixF (M.tbl h) (M.v (M.nd h).1) true) (2 ^ M.n) := cnt_congr _ fun x hx => tbl_hi o hm x (by omega)
  rw [e0, e1]
  exact cnt_halves _ _ _ o.le8 (o.vlt _ (o.lv h hm))
end

/-! ## Where first -/
/-- The least assignment, or 256. -/
def lstUpto (F : Nat → Bool) : Nat → Nat
  | 0 => 256
  | k + 1 => if lstUpto F k < 256 then lstUpto F k else if F k then k else 256
def lst (F : Nat → Bool) : Nat := lstUpto F 256
def IsLst (F : Nat → Bool) (k m : Nat) : Prop := (m < k ∧ F m = true ∧ ∀ y, y < m → F y = false) ∨ (m = 256 ∧ ∀ y, y < k → F y = false)
theorem lstUpto_is (F : Nat → Bool) : ∀ k, k ≤ 256 → IsLst F k (lstUpto F k)
  | 0, _ => .inr ⟨rfl, fun y hy => absurd hy (Nat.not_lt_zero _)⟩
  | k + 1, hk => by
    have ih := lstUpto_is F k (by omega)
    rw [lstUpto]
    rcases ih with ⟨h1, h2, h3⟩ | ⟨h1, h2⟩
    · rw [if_pos (by omega)]
      exact .inl ⟨by omega, h2, h3⟩
    · rw [if_neg (by omega)]
      cases q : F k with
      | true => rw [if_pos rfl]; exact .inl ⟨by omega, q, h2⟩
      | false =>
        rw [if_neg (by simp)]
        refine .inr ⟨rfl, fun y hy => ?_⟩
        by_cases c : y = k
        · rw [c]; exact q
        · exact h2 y (by omega)
theorem lst_is (F : Nat → Bool) : IsLst F 256 (lst F) := lstUpto_is F 256 (Nat.le_refl _)
theorem IsLst.one {F : Nat → Bool} {m m' : Nat} (h : IsLst F 256 m) (g : IsLst F 256 m') : m = m' := by
  rcases h with ⟨h1, h2, h3⟩ | ⟨h1, h2⟩ <;> rcases g with ⟨g1, g2, g3⟩ | ⟨g1, g2⟩
  · rcases Nat.lt_trichotomy m m' with c | c | c
    · have := g3 m c; rw [h2] at this; cases this
    · exact c
    · have := h3 m' c; rw [g2] at this; cases this
  · have := g2 m h1; rw [h2] at this; cases this
  · have := h2 m' g1; rw [g2] at this; cases this
  · omega
theorem IsLst.congr {F G : Nat → Bool} {m : Nat} (h : IsLst F 256 m) (e : Eqt F G) : IsLst G 256 m := by
  rcases h with ⟨h1, h2, h3⟩ | ⟨h1, h2⟩
  · exact .inl ⟨h1, by rw [← e m h1]; exact h2, fun y hy => by rw [← e y (by omega)]; exact h3 y hy⟩
  · exact .inr ⟨h1, fun y hy => by rw [← e y hy]; exact h2 y hy⟩
theorem lst_congr {F G : Nat → Bool} (e : Eqt F G) : lst F = lst G := (lst_is F).congr e |>.one (lst_is G)
theorem lst_le (F : Nat → Bool) : lst F ≤ 256 := by
  rcases lst_is F with ⟨h, _⟩ | ⟨h, _⟩ <;> omega
theorem lst_most {F : Nat → Bool} {y : Nat} (h : F y = true) : lst F ≤ y := by
  rcases lst_is F with ⟨_, _, h3⟩ | ⟨h1, h2⟩
  · rcases Nat.lt_or_ge y (lst F) with c | c
    · rw [h3 y c] at h; cases h
    · exact c
  · rcases Nat.lt_or_ge y 256 with c | c
    · rw [h2 y c] at h; cases h
    · omega
theorem lst_at {F : Nat → Bool} (h : lst F < 256) : F (lst F) = true := by
  rcases lst_is F with ⟨_, h2, _⟩ | ⟨h1, _⟩
  · exact h2
  · omega
theorem fix_less : ((List.range 256).all fun x => (List.range 8).all fun v => if x.testBit v then (fixAt v false x + 2 ^ v == x) && (x ||| 2 ^ v == x) else (x ||| 2 ^ v == x + 2 ^ v) && (fixAt v true x == x + 2 ^ v)) = true := by kernel_rfl
theorem fix_num {x v : Nat} (hx : x < 256) (hv : v < 8) : if x.testBit v then fixAt v false x + 2 ^ v = x ∧ x ||| 2 ^ v = x else x ||| 2 ^ v = x + 2 ^ v ∧ fixAt v true x = x + 2 ^ v := by
  have h1 := List.all_eq_true.1 fix_less x (List.mem_range.2 hx)
  have h2 := List.all_eq_true.1 h1 v (List.mem_range.2 hv)
  split at h2
  · rename_i c
    rw [if_pos c]
    simpa using h2
  · rename_i c
    rw [if_neg c]
    simpa using h2
theorem or256 : ((List.range 8).all fun v => decide (256 ≤ 256 ||| 2 ^ v)) = true := by kernel_rfl
theorem lst_bit {F : Nat → Bool} {v : Nat} (hv : v < 8) (h : lst F < 256) (q : ∀ x, x < 256 → F (fixAt v false x) = F x) : (lst F).testBit v = false := by
  cases c : (lst F).testBit v with
  | false => rfl
  | true =>
    have f := fix_num h hv
    rw [if_pos c] at f
    have t := lst_at h
    rw [← q _ h] at t
    have := lst_most t
    have := pow_pos2 v
    omega
theorem lst_join {M : Mdl} {h : Nat} (o : M.Ok) (hm : h ∈ M.hs) : lst (M.tbl h) = min (lst (M.tbl (M.nd h).2.1)) (lst (M.tbl (M.nd h).2.2) ||| 2 ^ M.v (M.nd h).1) := by
  have hv := v8 o (o.lv h hm)
  have nc := ne_cst o hm
  obtain ⟨v, ev⟩ : ∃ v, M.v (M.nd h).1 = v := ⟨_, rfl⟩
  obtain ⟨A, eA⟩ : ∃ A, M.tbl (M.nd h).2.1 = A := ⟨_, rfl⟩
  obtain ⟨B, eB⟩ : ∃ B, M.tbl (M.nd h).2.2 = B := ⟨_, rfl⟩
  have fA : ∀ x, x < 256 → ∀ b, A (fixAt v b x) = A x := fun x hx b => by rw [← eA, ← ev]; exact lo_free o hm hx b
  have fB : ∀ x, x < 256 → ∀ b, B (fixAt v b x) = B x := fun x hx b => by rw [← eB, ← ev]; exact hi_free o hm hx b
  have at' : ∀ x, M.tbl h x = if x.testBit v = true then B x else A x := fun x => by rw [tbl_at o hm, ev, eA, eB]
  rw [ev] at hv
  rw [ev, eA, eB]
  refine (lst_is _).one ?_
  have most : ∀ y, y < 256 → M.tbl h y = true → min (lst A) (lst B ||| 2 ^ v) ≤ y := fun y hy t => by
    rw [at' y] at t
    have f := fix_num hy hv
    split at t
    · rename_i c
      rw [if_pos c] at f
      rw [← fB y hy false] at t
      have l := lst_most t
      have b8 : lst B < 256 := by have := pow_pos2 v; omega
      have g := fix_num b8 hv
      rw [lst_bit hv b8 (fun x hx => fB x hx false), if_neg (by simp)] at g
      omega
    · have l := lst_most t
      omega
  by_cases a8 : lst A < 256
  · have tA := lst_at a8
    have bA := lst_bit hv a8 fun x hx => fA x hx false
    by_cases b8 : lst B < 256
    · have tB := lst_at b8
      have bB := lst_bit hv b8 fun x hx => fB x hx false
      have g := fix_num b8 hv
      rw [bB, if_neg (by simp)] at g
      have fb := fixAt_bits b8 hv true
      have tB' : M.tbl h (lst B ||| 2 ^ v) = true := by
        rw [g.1, ← g.2, at', fb.2, Mdl.setA_same, if_pos rfl, fB _ b8]
        exact tB
      have tA' : M.tbl h (lst A) = true := by rw [at', bA]; exact tA
      have lt : lst B ||| 2 ^ v < 256 := by rw [g.1, ← g.2]; exact fb.1
      refine .inl ⟨by omega, ?_, fun y hy => ?_⟩
      · rcases Nat.le_total (lst A) (lst B ||| 2 ^ v) with c | c
        · rw [Nat.min_eq_left c]; exact tA'
        · rw [Nat.min_eq_right c]; exact tB'
      · cases q : M.tbl h y with
        | false => rfl
        | true => have := most y (by omega) q; omega
    · have e256 : lst B = 256 := by have := lst_le B; omega
      have big : 256 ≤ lst B ||| 2 ^ v := by rw [e256]; exact of_decide_eq_true (List.all_eq_true.1 or256 v (List.mem_range.2 hv))
      rw [Nat.min_eq_left (by omega)]
      refine .inl ⟨a8, by rw [at', bA]; exact tA, fun y hy => ?_⟩
      cases q : M.tbl h y with
      | false => rfl
      | true => have := most y (by omega) q; omega
  · by_cases b8 : lst B < 256
    · have tB := lst_at b8
      have bB := lst_bit hv b8 fun x hx => fB x hx false
      have g := fix_num b8 hv
      rw [bB, if_neg (by simp)] at g
      have fb := fixAt_bits b8 hv true
      have tB' : M.tbl h (lst B ||| 2 ^ v) = true := by
        rw [g.1, ← g.2, at', fb.2, Mdl.setA_same, if_pos rfl, fB _ b8]
        exact tB
      have lt : lst B ||| 2 ^ v < 256 := by rw [g.1, ← g.2]; exact fb.1
      rw [Nat.min_eq_right (by omega)]
      refine .inl ⟨lt, tB', fun y hy => ?_⟩
      cases q : M.tbl h y with
      | false => rfl
      | true => have := most y (by omega) q; omega
    · exfalso
      refine nc (.inl fun x hx => ?_)
      rw [at']
      have hA : A x = false := by
        cases q : A x with
        | false => rfl
        | true => have := lst_most q; omega
      have hB : B x = false := by
        cases q : B x with
        | false => rfl
        | true => have := lst_most q; omega
      rw [hA, hB, ite_self]

/-! ## Numbers told from the constants up -/
/-- What each node's number is, of its variable and its children's. -/
def Joins (M : Mdl) (J : Nat → Nat → Nat → Nat) (T : Nat → Nat) : Prop := ∀ h ∈ M.hs, T h = J (M.v (M.nd h).1) (T (M.nd h).2.1) (T (M.nd h).2.2)
def jCnt (_v a b : Nat) : Nat := a / 2 + b / 2
def jSup (v a b : Nat) : Nat := (a ||| b) ||| 2 ^ v
def jLst (v a b : Nat) : Nat := min a (b ||| 2 ^ v)
def tCnt (M : Mdl) (h : Nat) : Nat := countUpto (M.tbl h) (2 ^ M.n)
def tSup (M : Mdl) (h : Nat) : Nat := supUpto (M.tbl h) 8
def tLst (M : Mdl) (h : Nat) : Nat := lst (M.tbl h)
section
variable {M : Mdl}
theorem cnt_is (o : M.Ok) : Joins M jCnt (tCnt M) := fun h hm => by
  have := cnt_join o hm
  unfold tCnt jCnt
  omega
theorem sup_is (o : M.Ok) : Joins M jSup (tSup M) := fun _ hm => sup_join o hm
theorem lst_is' (o : M.Ok) : Joins M jLst (tLst M) := fun _ hm => lst_join o hm
theorem cnt_zero (M : Mdl) : tCnt M 0 = 0 := by
  unfold tCnt
  rw [cnt_congr (F := M.tbl 0) (G := fun _ => false) _ fun x _ => Mdl.val_zero _, cnt_const]
  rfl
theorem cnt_one (M : Mdl) : tCnt M 1 = 2 ^ M.n := by
  unfold tCnt
  rw [cnt_congr (F := M.tbl 1) (G := fun _ => true) _ fun x _ => Mdl.val_one _, cnt_const]
  rfl
theorem sup_zero (M : Mdl) : tSup M 0 = 0 := sup_cst (tbl_cst (by omega))
theorem sup_one (M : Mdl) : tSup M 1 = 0 := sup_cst (tbl_cst (by omega))
theorem lst_zero (M : Mdl) : tLst M 0 = 256 := (lst_is _).one (.inr ⟨rfl, fun _ _ => Mdl.val_zero _⟩)
theorem lst_one (M : Mdl) : tLst M 1 = 0 := (lst_is _).one (.inl ⟨by omega, Mdl.val_one _, fun y hy => absurd hy (Nat.not_lt_zero _)⟩)
theorem tCnt_le (M : Mdl) (h : Nat) : tCnt M h ≤ 2 ^ M.n := cnt_le _ _
theorem tSup_lt (M : Mdl) (h : Nat) : tSup M h < 256 := Rf.sup_lt _ 8 (Nat.le_refl _)
theorem tLst_le (M : Mdl) (h : Nat) : tLst M h ≤ 256 := lst_le _
end

/-! ## What is reached -/
/-- It holds the children of what it holds, but for constants. -/
def Closed (M : Mdl) (C : Nat → Prop) : Prop := ∀ h, C h → ((M.nd h).2.1 < 2 ∨ C (M.nd h).2.1) ∧ ((M.nd h).2.2 < 2 ∨ C (M.nd h).2.2)
theorem Closed.prt {M : Mdl} (o : M.Ok) {C : Nat → Prop} (cl : Closed M C) {x : Nat} (hx : x ∈ M.hs) (d : Nat) : ∀ {h : Nat}, M.isNode h → M.n - M.lev h ≤ d → (h < 2 ∨ C h) → Prt M (M.tbl h) (M.tbl x) → C x := by
  induction d with
  | zero =>
    intro h hh hd _ p
    refine absurd p (Prt.not_cst o (tbl_dep o hh (Nat.zero_le _)) (tbl_cst ?_))
    rcases hh with e | e
    · exact e
    · have := o.lv h e; rw [Mdl.lev_in o e] at hd; omega
  | succ d ih =>
    intro h hh hd hc p
    rcases hh with e | hm
    · exact absurd p (Prt.not_cst o (tbl_dep o (.inl e) (Nat.zero_le _)) (tbl_cst e))
    · have lv := o.lv h hm
      have l1 := o.lo h hm
      have l2 := o.hi h hm
      have ch : C h := hc.resolve_left (by have := (o.range h hm).1; omega)
      rw [Mdl.lev_in o hm] at hd
      have dp : Dep M (M.nd h).1 (M.tbl h) := tbl_dep o (.inr hm) (by rw [Mdl.lev_in o hm]; exact Nat.le_refl _)
      rcases (Prt.step o lv dp).1 p with ⟨e, _⟩ | q | q
      · rw [← (Mdl.one_iff o (.inr hm) (.inr hx)).1 e]; exact ch
      · exact ih l1.1 (by omega) (cl h ch).1 ((Prt.like o (tbl_dep o l1.1 (Nat.zero_le _)) (tbl_lo o hm)).2 q)
      · exact ih l2.1 (by omega) (cl h ch).2 ((Prt.like o (tbl_dep o l2.1 (Nat.zero_le _)) (tbl_hi o hm)).2 q)
end Go.Proofs.YteickckgljlacaaGreat
