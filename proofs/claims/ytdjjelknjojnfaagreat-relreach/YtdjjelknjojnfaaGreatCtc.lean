/-
  How often, on what, where first a node's function is true, told from the constants up; which nodes are reached. No program is walked here.
  Maps from handles to numbers: what is looked up and laid; their entries, gone through in whatever order.
  Package count: what joins children's numbers, for Count, Support and One.
  Package count: a node's number, told from the constants up, whatever joins the children's.
-/
import Derived.Test.YtdjjelknjojnfaaGreatLgc
import Derived.MapKept
import Derived.Laws.IdiomRangeMap
import Derived.Deep.RegionHeld3
namespace Go.Proofs.YtdjjelknjojnfaaGreat
open Rf (fixAt fixF countUpto supUpto same)

/-! ## How often -/
theorem cnt_congr {F G : Nat → Bool} : ∀ (k : Nat), (∀ x, x < k → F x = G x) → countUpto F k = countUpto G k
  | 0, _ => rfl
  | k + 1, h => by rw [countUpto, countUpto, cnt_congr k (fun x hx => h x (by omega)), h k (by omega)]
theorem cnt_add (F : Nat → Bool) (a : Nat) : ∀ b, countUpto F (a + b) = countUpto F a + countUpto (fun x => F (a + x)) b
  | 0 => rfl
  | b + 1 => by rw [← Nat.add_assoc, countUpto, countUpto, cnt_add F a b]; omega
theorem cnt_two (F : Nat → Bool) (k : Nat) : countUpto F (2 ^ (k + 1)) = countUpto F (2 ^ k) + countUpto (fun x => F (2 ^ k + x)) (2 ^ k) := by
  rw [show 2 ^ (k + 1) = 2 ^ k + 2 ^ k by rw [Nat.pow_succ]; omega, cnt_add]
theorem cnt_le (F : Nat → Bool) : ∀ k, countUpto F k ≤ k := Rf.count_le F
theorem fix_far : ((List.range 8).all fun k => (List.range k).all fun v => (List.range (2 ^ k)).all fun x => [true, false].all fun b => fixAt v b (2 ^ k + x) == 2 ^ k + fixAt v b x) = true := by kernel_rfl
theorem fix_at (b : Bool) {k v x : Nat} (hk : k < 8) (hv : v < k) (hx : x < 2 ^ k) : fixAt v b (2 ^ k + x) = 2 ^ k + fixAt v b x := by
  have h1 := List.all_eq_true.1 fix_far k (List.mem_range.2 hk)
  have h2 := List.all_eq_true.1 h1 v (List.mem_range.2 hv)
  have h3 := List.all_eq_true.1 h2 x (List.mem_range.2 hx)
  have h4 := List.all_eq_true.1 h3 b (by cases b <;> simp)
  exact beq_iff_eq.1 h4
theorem fix_near : ((List.range 8).all fun k => (List.range (2 ^ k)).all fun x => (fixAt k false x == x) && (fixAt k true x == 2 ^ k + x) && (fixAt k false (2 ^ k + x) == x) && (fixAt k true (2 ^ k + x) == 2 ^ k + x)) = true := by kernel_rfl
theorem fix_top {k x : Nat} (hk : k < 8) (hx : x < 2 ^ k) : fixAt k false x = x ∧ fixAt k true x = 2 ^ k + x ∧ fixAt k false (2 ^ k + x) = x ∧ fixAt k true (2 ^ k + x) = 2 ^ k + x := by
  have h1 := List.all_eq_true.1 fix_near k (List.mem_range.2 hk)
  have h2 := List.all_eq_true.1 h1 x (List.mem_range.2 hx)
  simp only [Bool.and_eq_true, beq_iff_eq] at h2
  exact ⟨h2.1.1.1, h2.1.1.2, h2.1.2, h2.2⟩
theorem pow_pos2 (k : Nat) : 0 < 2 ^ k := Nat.two_pow_pos k
/-- It is true as often as its two halves together, each halved. -/
theorem cnt_halves : ∀ (n v : Nat) (F : Nat → Bool), n ≤ 8 → v < n → 2 * countUpto F (2 ^ n) = countUpto (fixF F v false) (2 ^ n) + countUpto (fixF F v true) (2 ^ n) ∧ countUpto (fixF F v false) (2 ^ n) % 2 = 0 ∧ countUpto (fixF F v true) (2 ^ n) % 2 = 0
  | 0, v, _, _, hv => absurd hv (Nat.not_lt_zero _)
  | k + 1, v, F, hn, hv => by
    rw [cnt_two, cnt_two, cnt_two]
    by_cases c : v = k
    · subst c
      have e0 : countUpto (fixF F v false) (2 ^ v) = countUpto F (2 ^ v) := cnt_congr _ fun x hx => by
        show F _ = F _
        rw [(fix_top (by omega) hx).1]
      have e1 : countUpto (fixF F v true) (2 ^ v) = countUpto (fun x => F (2 ^ v + x)) (2 ^ v) := cnt_congr _ fun x hx => by
        show F _ = F _
        rw [(fix_top (by omega) hx).2.1]
      have e2 : countUpto (fun x => fixF F v false (2 ^ v + x)) (2 ^ v) = countUpto F (2 ^ v) := cnt_congr _ fun x hx => by
        show F _ = F _
        rw [(fix_top (by omega) hx).2.2.1]
      have e3 : countUpto (fun x => fixF F v true (2 ^ v + x)) (2 ^ v) = countUpto (fun x => F (2 ^ v + x)) (2 ^ v) := cnt_congr _ fun x hx => by
        show F _ = F _
        rw [(fix_top (by omega) hx).2.2.2]
      rw [e0, e1, e2, e3]
      omega
    · have i0 := cnt_halves k v F (by omega) (by omega)
      have i1 := cnt_halves k v (fun x => F (2 ^ k + x)) (by omega) (by omega)
      have e : ∀ b, countUpto (fun x => fixF F v b (2 ^ k + x)) (2 ^ k) = countUpto (fixF (fun x => F (2 ^ k + x)) v b) (2 ^ k) := fun b => cnt_congr _ fun x hx => by
        show F _ = F _
        rw [fix_at b (by omega) (by omega) hx]
      rw [e, e]
      omega
theorem cnt_not (F : Nat → Bool) : ∀ k, countUpto F k + countUpto (fun x => !F x) k = k
  | 0 => rfl
  | k + 1 => by
    have := cnt_not F k
    rw [countUpto, countUpto]
    cases F k <;> simp <;> omega
theorem cnt_both (F G : Nat → Bool) : ∀ k, countUpto (fun x => F x && G x) k + countUpto (fun x => F x || G x) k = countUpto F k + countUpto G k
  | 0 => rfl
  | k + 1 => by
    have := cnt_both F G k
    rw [countUpto, countUpto, countUpto, countUpto]
    cases F k <;> cases G k <;> simp <;> omega
theorem cnt_none {F : Nat → Bool} : ∀ {k : Nat}, countUpto F k = 0 → ∀ x, x < k → F x = false
  | 0, _, x, hx => absurd hx (Nat.not_lt_zero _)
  | k + 1, h, x, hx => by
    rw [countUpto] at h
    by_cases c : x = k
    · subst c
      cases q : F x with
      | false => rfl
      | true => rw [q] at h; simp at h
    · exact cnt_none (k := k) (by omega) x (by omega)
theorem cnt_all {F : Nat → Bool} : ∀ {k : Nat}, countUpto F k = k → ∀ x, x < k → F x = true
  | 0, _, x, hx => absurd hx (Nat.not_lt_zero _)
  | k + 1, h, x, hx => by
    rw [countUpto] at h
    have := cnt_le F k
    by_cases c : x = k
    · subst c
      cases q : F x with
      | true => rfl
      | false => rw [q] at h; simp at h; omega
    · refine cnt_all (k := k) ?_ x (by omega)
      cases q : F k with
      | true => rw [q] at h; simp at h; omega
      | false => rw [q] at h; simp at h; omega
theorem cnt_const (b : Bool) : ∀ k, countUpto (fun _ => b) k = if b then k else 0
  | 0 => by cases b <;> rfl
  | k + 1 => by rw [countUpto, cnt_const b k]; cases b <;> simp
theorem cnt_times (F : Nat → Bool) (N : Nat) (h : ∀ x, F x = F (x % N)) : ∀ m, countUpto F (N * m) = m * countUpto F N
  | 0 => by simp [countUpto]
  | m + 1 => by
    rw [Nat.mul_succ, cnt_add, cnt_times F N h m, Nat.succ_mul]
    congr 1
    exact cnt_congr _ fun x hx => by rw [h (N * m + x), Nat.mul_add_mod, Nat.mod_eq_of_lt hx]
/-- Over fewer variables: as often as over all, divided. -/
theorem cnt_low (F : Nat → Bool) {n : Nat} (hn : n ≤ 8) (h : ∀ x, x < 256 → F x = F (x % 2 ^ n)) : countUpto F 256 / 2 ^ (8 - n) = countUpto F (2 ^ n) := by
  have e : (256 : Nat) = 2 ^ n * 2 ^ (8 - n) := by rw [← Nat.pow_add, show n + (8 - n) = 8 by omega]
  have l : 2 ^ n ≤ 256 := Nat.pow_le_pow_right (n := 2) (j := 8) (by omega) hn
  have p := pow_pos2 n
  have c : countUpto F 256 = countUpto (fun x => F (x % 2 ^ n)) 256 := cnt_congr _ h
  rw [c, e, cnt_times _ _ (fun x => by rw [Nat.mod_mod]), Nat.mul_div_cancel_left _ (pow_pos2 _)]
  exact cnt_congr _ fun x hx => by rw [Nat.mod_eq_of_lt hx]

/-! ## On what -/
theorem same_false_iff {F G : Nat → Bool} : same F G = false ↔ ¬ Eqt F G := by
  have := Rf.same_iff F G
  constructor
  · intro h e
    rw [this.2 e] at h
    cases h
  · intro h
    cases c : same F G with
    | false => rfl
    | true => exact absurd (this.1 c) h
/-- Whether a function hangs on a variable. -/
def hangs (F : Nat → Bool) (v : Nat) : Bool := !same (fixF F v false) (fixF F v true)
theorem hangs_iff {F : Nat → Bool} {v : Nat} : hangs F v = true ↔ ¬ Eqt (fixF F v false) (fixF F v true) := by
  unfold hangs
  rw [Bool.not_eq_true', same_false_iff]
theorem sup_bit (F : Nat → Bool) (j : Nat) : ∀ k, (supUpto F k).testBit j = (decide (j < k) && hangs F j)
  | 0 => by rw [supUpto, Nat.zero_testBit]; simp
  | k + 1 => by
    rw [supUpto]
    have ih := sup_bit F j k
    by_cases c : j = k
    · subst c
      cases q : same (fixF F j false) (fixF F j true) with
      | true => rw [if_pos rfl, ih]; unfold hangs; rw [q]; simp
      | false => rw [if_neg (by simp), Nat.testBit_or, ih, Nat.testBit_two_pow_self]; unfold hangs; rw [q]; simp
    · have d : decide (j < k + 1) = decide (j < k) := by
        by_cases e : j < k
        · rw [decide_eq_true e, decide_eq_true (by omega)]
        · rw [decide_eq_false e, decide_eq_false (by omega)]
      have t : (2 ^ k).testBit j = false := by rw [Nat.testBit_two_pow]; exact decide_eq_false (fun e => c e.symm)
      rw [d, ← ih]
      split
      · rfl
      · rw [Nat.testBit_or, t, Bool.or_false]
theorem hangs_congr {F G : Nat → Bool} (e : Eqt F G) {v : Nat} (hv : v < 8) : hangs F v = hangs G v := by
  have h0 := fixF_congr e hv false
  have h1 := fixF_congr e hv true
  rw [Bool.eq_iff_iff, hangs_iff, hangs_iff]
  exact ⟨fun h q => h (h0.trans (q.trans h1.symm)), fun h q => h (h0.symm.trans (q.trans h1))⟩
theorem sup_congr {F G : Nat → Bool} (e : Eqt F G) : supUpto F 8 = supUpto G 8 := by
  refine Nat.eq_of_testBit_eq fun j => ?_
  rw [sup_bit, sup_bit]
  by_cases c : j < 8
  · rw [hangs_congr e c]
  · rw [decide_eq_false c]; rfl
theorem sup_cst {F : Nat → Bool} (c : Cst F) : supUpto F 8 = 0 := by
  refine Nat.eq_of_testBit_eq fun j => ?_
  rw [sup_bit, Nat.zero_testBit]
  by_cases hj : j < 8
  · have : hangs F j = false := by
      cases q : hangs F j with
      | false => rfl
      | true =>
        refine absurd (fun x hx => ?_) (hangs_iff.1 q)
        have a := (fixAt_bits hx hj false).1
        have b := (fixAt_bits hx hj true).1
        show F _ = F _
        rcases c with c | c
        · rw [c _ a, c _ b]
        · rw [c _ a, c _ b]
    rw [this, Bool.and_false]
  · rw [decide_eq_false hj]; rfl
theorem fixAt_ext {x y : Nat} (h : x.testBit = y.testBit) : x = y := Nat.eq_of_testBit_eq fun j => congrFun h j
theorem fixAt_over {x v : Nat} (hx : x < 256) (hv : v < 8) (b c : Bool) : fixAt v b (fixAt v c x) = fixAt v b x := by
  obtain ⟨h1, h2⟩ := fixAt_bits hx hv c
  obtain ⟨h3, h4⟩ := fixAt_bits h1 hv b
  obtain ⟨h5, h6⟩ := fixAt_bits hx hv b
  refine fixAt_ext ?_
  rw [h4, h6, h2]
  funext j
  unfold Mdl.setA
  by_cases e : j = v
  · rw [if_pos e, if_pos e]
  · rw [if_neg e, if_neg e, if_neg e]
theorem fixAt_swap {x u v : Nat} (hx : x < 256) (hu : u < 8) (hv : v < 8) (ne : u ≠ v) (b c : Bool) : fixAt v b (fixAt u c x) = fixAt u c (fixAt v b x) := by
  obtain ⟨h1, h2⟩ := fixAt_bits hx hu c
  obtain ⟨h3, h4⟩ := fixAt_bits h1 hv b
  obtain ⟨h5, h6⟩ := fixAt_bits hx hv b
  obtain ⟨h7, h8⟩ := fixAt_bits h5 hu c
  refine fixAt_ext ?_
  rw [h4, h8, h2, h6]
  funext j
  unfold Mdl.setA
  by_cases e : j = v
  · rw [if_pos e, if_neg (by omega), if_pos e]
  · rw [if_neg e]
    by_cases e' : j = u
    · rw [if_pos e', if_pos e']
    · rw [if_neg e', if_neg e', if_neg e]
section
variable {M : Mdl} {h : Nat}
/-- The function of an inner node by its variable. -/
theorem tbl_at (o : M.Ok) (hm : h ∈ M.hs) (x : Nat) : M.tbl h x = if x.testBit (M.v (M.nd h).1) = true then M.tbl (M.nd h).2.2 x else M.tbl (M.nd h).2.1 x := Mdl.val_in o hm _
theorem lo_free (o : M.Ok) (hm : h ∈ M.hs) {x : Nat} (hx : x < 256) (b : Bool) : M.tbl (M.nd h).2.1 (fixAt (M.v (M.nd h).1) b x) = M.tbl (M.nd h).2.1 x := tbl_fix o (o.lo h hm).1 (o.lo h hm).2 (o.lv h hm) b x hx
theorem hi_free (o : M.Ok) (hm : h ∈ M.hs) {x : Nat} (hx : x < 256) (b : Bool) : M.tbl (M.nd h).2.2 (fixAt (M.v (M.nd h).1) b x) = M.tbl (M.nd h).2.2 x := tbl_fix o (o.hi h hm).1 (o.hi h hm).2 (o.lv h hm) b x hx
theorem ne_cst (o : M.Ok) (hm : h ∈ M.hs) : ¬ Cst (M.tbl h) := fun c => by
  have h2 := (o.range h hm).1
  rcases c with c | c
  · have := (Mdl.one_iff o (.inr hm) (.inl (show 0 < 2 by omega))).1 fun x hx => by rw [c x hx]; exact (Mdl.val_zero _).symm
    omega
  · have := (Mdl.one_iff o (.inr hm) (.inl (show 1 < 2 by omega))).1 fun x hx => by rw [c x hx]; exact (Mdl.val_one _).symm
    omega
theorem hangs_own (o : M.Ok) (hm : h ∈ M.hs) : hangs (M.tbl h) (M.v (M.nd h).1) = true := hangs_iff.2 fun e =>
  o.ne h hm ((Mdl.one_iff o (o.lo h hm).1 (o.hi h hm).1).1 fun x hx => by rw [tbl_lo o hm x hx, tbl_hi o hm x hx, e x hx])
theorem hangs_not {F : Nat → Bool} {v : Nat} (q : ∀ b, Eqt (fixF F v b) F) : hangs F v = false := by
  cases c : hangs F v with
  | false => rfl
  | true => exact absurd ((q false).trans (q true).symm) (hangs_iff.1 c)
/-- Above a node's level it hangs on nothing. -/
theorem hangs_above (o : M.Ok) (hh : M.isNode h) {i : Nat} (hi : i < M.lev h) (hn : i < M.n) : hangs (M.tbl h) (M.v i) = false := hangs_not fun b => tbl_fix o hh hi hn b
theorem hangs_out (o : M.Ok) (hh : M.isNode h) {u : Nat} (hu : M.n ≤ u) (hu8 : u < 8) : hangs (M.tbl h) u = false := hangs_not fun b x hx => by
  obtain ⟨h1, h2⟩ := fixAt_bits hx hu8 b
  refine Mdl.val_congr o _ hh (Nat.le_refl _) fun j _ hj => ?_
  rw [h2]
  exact Mdl.setA_other _ _ (by have := o.vlt j hj; omega)
theorem hangs_join (o : M.Ok) (hm : h ∈ M.hs) {u : Nat} (hu : u < 8) : hangs (M.tbl h) u = (hangs (M.tbl (M.nd h).2.1) u || hangs (M.tbl (M.nd h).2.2) u || decide (u = M.v (M.nd h).1)) := by
  have hv := v8 o (o.lv h hm)
  by_cases c : u = M.v (M.nd h).1
  · rw [decide_eq_true c, Bool.or_true, c]
    exact hangs_own o hm
  · rw [decide_eq_false c, Bool.or_false, Bool.eq_iff_iff, Bool.or_eq_true, hangs_iff, hangs_iff, hangs_iff]
    constructor
    · intro q
      by_cases c0 : Eqt (fixF (M.tbl (M.nd h).2.1) u false) (fixF (M.tbl (M.nd h).2.1) u true)
      · refine .inr fun c1 => q fun x hx => ?_
        have a := fixAt_bits hx hu false
        have b := fixAt_bits hx hu true
        show M.tbl h _ = M.tbl h _
        rw [tbl_at o hm, tbl_at o hm, a.2, b.2, Mdl.setA_other _ _ (fun e => c e.symm), Mdl.setA_other _ _ (fun e => c e.symm)]
        split
        · exact c1 x hx
        · exact c0 x hx
      · exact .inl c0
    · rintro (q | q) e
      · refine q fun x hx => ?_
        have f := fixAt_bits hx hv false
        have := e _ f.1
        have a := (fixAt_bits hx hu false).1
        have b := (fixAt_bits hx hu true).1
        show M.tbl _ (fixAt u false x) = M.tbl _ (fixAt u true x)
        rw [← lo_free o hm a false, ← lo_free o hm b false, ← fixAt_swap hx hv hu (fun e => c e.symm), ← fixAt_swap hx hv hu (fun e => c e.symm)]
        have a' := fixAt_bits f.1 hu false
        have b' := fixAt_bits f.1 hu true
        have e' : M.tbl h (fixAt u false (fixAt (M.v (M.nd h).1) false x)) = M.tbl h (fixAt u true (fixAt (M.v (M.nd h).1) false x)) := this
        rw [tbl_at o hm, tbl_at o hm, a'.2, b'.2, Mdl.setA_other _ _ (fun e => c e.symm), Mdl.setA_other _ _ (fun e => c e.symm), f.2, Mdl.setA_same] at e'
        simpa using e'
      · refine q fun x hx => ?_
        have f := fixAt_bits hx hv true
        have := e _ f.1
        have a := (fixAt_bits hx hu false).1
        have b := (fixAt_bits hx hu true).1
        show M.tbl _ (fixAt u false x) = M.tbl _ (fixAt u true x)
        rw [← hi_free o hm a true, ← hi_free o hm b true, ← fixAt_swap hx hv hu (fun e => c e.symm), ← fixAt_swap hx hv hu (fun e => c e.symm)]
        have a' := fixAt_bits f.1 hu false
        have b' := fixAt_bits f.1 hu true
        have e' : M.tbl h (fixAt u false (fixAt (M.v (M.nd h).1) true x)) = M.tbl h (fixAt u true (fixAt (M.v (M.nd h).1) true x)) := this
        rw [tbl_at o hm, tbl_at o hm, a'.2, b'.2, Mdl.setA_other _ _ (fun e => c e.symm), Mdl.setA_other _ _ (fun e => c e.symm), f.2, Mdl.setA_same] at e'
        simpa using e'
theorem sup_join (o : M.Ok) (hm : h ∈ M.hs) : supUpto (M.tbl h) 8 = (supUpto (M.tbl (M.nd h).2.1) 8 ||| supUpto (M.tbl (M.nd h).2.2) 8) ||| 2 ^ M.v (M.nd h).1 := by
  have hv := v8 o (o.lv h hm)
  refine Nat.eq_of_testBit_eq fun j => ?_
  rw [Nat.testBit_or, Nat.testBit_or, sup_bit, sup_bit, sup_bit, Nat.testBit_two_pow]
  by_cases c : j < 8
  · rw [hangs_join o hm c, decide_eq_true c, Bool.true_and, Bool.true_and, Bool.true_and]
    congr 1
    by_cases e : j = M.v (M.nd h).1
    · rw [decide_eq_true e, decide_eq_true e.symm]
    · rw [decide_eq_false e, decide_eq_false (fun q => e q.symm)]
  · rw [decide_eq_false c, decide_eq_false (show ¬ M.v (M.nd h).1 = j by omega)]
    rfl
theorem cnt_join (o : M.Ok) (hm : h ∈ M.hs) : 2 * countUpto (M.tbl h) (2 ^ M.n) = countUpto (M.tbl (M.nd h).2.1) (2 ^ M.n) + countUpto (M.tbl (M.nd h).2.2) (2 ^ M.n) ∧ countUpto (M.tbl (M.nd h).2.1) (2 ^ M.n) % 2 = 0 ∧ countUpto (M.tbl (M.nd h).2.2) (2 ^ M.n) % 2 = 0 := by
  have l : 2 ^ M.n ≤ 256 := Nat.pow_le_pow_right (n := 2) (j := 8) (by omega) o.le8
  have e0 : countUpto (M.tbl (M.nd h).2.1) (2 ^ M.n) = countUpto (fixF (M.tbl h) (M.v (M.nd h).1) false) (2 ^ M.n) := cnt_congr _ fun x hx => tbl_lo o hm x (by omega)
  have e1 : countUpto (M.tbl (M.nd h).2.2) (2 ^ M.n) = countUpto (fixF (M.tbl h) (M.v (M.nd h).1) true) (2 ^ M.n) := cnt_congr _ fun x hx => tbl_hi o hm x (by omega)
  rw [e0, e1]
  exact cnt_halves _ _ _ o.le8 (o.vlt _ (o.lv h hm))
end

/-! ## Where first -/
/-- The least assignment, or 256. -/
def lstUpto (F : Nat → Bool) : Nat → Nat
  | 0 => 256
  | k + 1 => if lstUpto F k < 256 then lstUpto F k else if F k then k else 256
def lst (F : Nat → Bool) : Nat := lstUpto F 256
def IsLst (F : Nat → Bool) (k m : Nat) : Prop := (m < k ∧ F m = true ∧ ∀ y, y < m → F y = false) ∨ (m = 256 ∧ ∀ y, y < k → F y = false)
theorem lstUpto_is (F : Nat → Bool) : ∀ k, k ≤ 256 → IsLst F k (lstUpto F k)
  | 0, _ => .inr ⟨rfl, fun y hy => absurd hy (Nat.not_lt_zero _)⟩
  | k + 1, hk => by
    have ih := lstUpto_is F k (by omega)
    rw [lstUpto]
    rcases ih with ⟨h1, h2, h3⟩ | ⟨h1, h2⟩
    · rw [if_pos (by omega)]
      exact .inl ⟨by omega, h2, h3⟩
    · rw [if_neg (by omega)]
      cases q : F k with
      | true => rw [if_pos rfl]; exact .inl ⟨by omega, q, h2⟩
      | false =>
        rw [if_neg (by simp)]
        refine .inr ⟨rfl, fun y hy => ?_⟩
        by_cases c : y = k
        · rw [c]; exact q
        · exact h2 y (by omega)
theorem lst_is (F : Nat → Bool) : IsLst F 256 (lst F) := lstUpto_is F 256 (Nat.le_refl _)
theorem IsLst.one {F : Nat → Bool} {m m' : Nat} (h : IsLst F 256 m) (g : IsLst F 256 m') : m = m' := by
  rcases h with ⟨h1, h2, h3⟩ | ⟨h1, h2⟩ <;> rcases g with ⟨g1, g2, g3⟩ | ⟨g1, g2⟩
  · rcases Nat.lt_trichotomy m m' with c | c | c
    · have := g3 m c; rw [h2] at this; cases this
    · exact c
    · have := h3 m' c; rw [g2] at this; cases this
  · have := g2 m h1; rw [h2] at this; cases this
  · have := h2 m' g1; rw [g2] at this; cases this
  · omega
theorem IsLst.congr {F G : Nat → Bool} {m : Nat} (h : IsLst F 256 m) (e : Eqt F G) : IsLst G 256 m := by
  rcases h with ⟨h1, h2, h3⟩ | ⟨h1, h2⟩
  · exact .inl ⟨h1, by rw [← e m h1]; exact h2, fun y hy => by rw [← e y (by omega)]; exact h3 y hy⟩
  · exact .inr ⟨h1, fun y hy => by rw [← e y hy]; exact h2 y hy⟩
theorem lst_congr {F G : Nat → Bool} (e : Eqt F G) : lst F = lst G := (lst_is F).congr e |>.one (lst_is G)
theorem lst_le (F : Nat → Bool) : lst F ≤ 256 := by
  rcases lst_is F with ⟨h, _⟩ | ⟨h, _⟩ <;> omega
theorem lst_most {F : Nat → Bool} {y : Nat} (h : F y = true) : lst F ≤ y := by
  rcases lst_is F with ⟨_, _, h3⟩ | ⟨h1, h2⟩
  · rcases Nat.lt_or_ge y (lst F) with c | c
    · rw [h3 y c] at h; cases h
    · exact c
  · rcases Nat.lt_or_ge y 256 with c | c
    · rw [h2 y c] at h; cases h
    · omega
theorem lst_at {F : Nat → Bool} (h : lst F < 256) : F (lst F) = true := by
  rcases lst_is F with ⟨_, h2, _⟩ | ⟨h1, _⟩
  · exact h2
  · omega
theorem fix_less : ((List.range 256).all fun x => (List.range 8).all fun v => if x.testBit v then (fixAt v false x + 2 ^ v == x) && (x ||| 2 ^ v == x) else (x ||| 2 ^ v == x + 2 ^ v) && (fixAt v true x == x + 2 ^ v)) = true := by kernel_rfl
theorem fix_num {x v : Nat} (hx : x < 256) (hv : v < 8) : if x.testBit v then fixAt v false x + 2 ^ v = x ∧ x ||| 2 ^ v = x else x ||| 2 ^ v = x + 2 ^ v ∧ fixAt v true x = x + 2 ^ v := by
  have h1 := List.all_eq_true.1 fix_less x (List.mem_range.2 hx)
  have h2 := List.all_eq_true.1 h1 v (List.mem_range.2 hv)
  split at h2
  · rename_i c
    rw [if_pos c]
    simpa using h2
  · rename_i c
    rw [if_neg c]
    simpa using h2
theorem or256 : ((List.range 8).all fun v => decide (256 ≤ 256 ||| 2 ^ v)) = true := by kernel_rfl
theorem lst_bit {F : Nat → Bool} {v : Nat} (hv : v < 8) (h : lst F < 256) (q : ∀ x, x < 256 → F (fixAt v false x) = F x) : (lst F).testBit v = false := by
  cases c : (lst F).testBit v with
  | false => rfl
  | true =>
    have f := fix_num h hv
    rw [if_pos c] at f
    have t := lst_at h
    rw [← q _ h] at t
    have := lst_most t
    have := pow_pos2 v
    omega
theorem lst_join {M : Mdl} {h : Nat} (o : M.Ok) (hm : h ∈ M.hs) : lst (M.tbl h) = min (lst (M.tbl (M.nd h).2.1)) (lst (M.tbl (M.nd h).2.2) ||| 2 ^ M.v (M.nd h).1) := by
  have hv := v8 o (o.lv h hm)
  have nc := ne_cst o hm
  obtain ⟨v, ev⟩ : ∃ v, M.v (M.nd h).1 = v := ⟨_, rfl⟩
  obtain ⟨A, eA⟩ : ∃ A, M.tbl (M.nd h).2.1 = A := ⟨_, rfl⟩
  obtain ⟨B, eB⟩ : ∃ B, M.tbl (M.nd h).2.2 = B := ⟨_, rfl⟩
  have fA : ∀ x, x < 256 → ∀ b, A (fixAt v b x) = A x := fun x hx b => by rw [← eA, ← ev]; exact lo_free o hm hx b
  have fB : ∀ x, x < 256 → ∀ b, B (fixAt v b x) = B x := fun x hx b => by rw [← eB, ← ev]; exact hi_free o hm hx b
  have at' : ∀ x, M.tbl h x = if x.testBit v = true then B x else A x := fun x => by rw [tbl_at o hm, ev, eA, eB]
  rw [ev] at hv
  rw [ev, eA, eB]
  refine (lst_is _).one ?_
  have most : ∀ y, y < 256 → M.tbl h y = true → min (lst A) (lst B ||| 2 ^ v) ≤ y := fun y hy t => by
    rw [at' y] at t
    have f := fix_num hy hv
    split at t
    · rename_i c
      rw [if_pos c] at f
      rw [← fB y hy false] at t
      have l := lst_most t
      have b8 : lst B < 256 := by have := pow_pos2 v; omega
      have g := fix_num b8 hv
      rw [lst_bit hv b8 (fun x hx => fB x hx false), if_neg (by simp)] at g
      omega
    · have l := lst_most t
      omega
  by_cases a8 : lst A < 256
  · have tA := lst_at a8
    have bA := lst_bit hv a8 fun x hx => fA x hx false
    by_cases b8 : lst B < 256
    · have tB := lst_at b8
      have bB := lst_bit hv b8 fun x hx => fB x hx false
      have g := fix_num b8 hv
      rw [bB, if_neg (by simp)] at g
      have fb := fixAt_bits b8 hv true
      have tB' : M.tbl h (lst B ||| 2 ^ v) = true := by
        rw [g.1, ← g.2, at', fb.2, Mdl.setA_same, if_pos rfl, fB _ b8]
        exact tB
      have tA' : M.tbl h (lst A) = true := by rw [at', bA]; exact tA
      have lt : lst B ||| 2 ^ v < 256 := by rw [g.1, ← g.2]; exact fb.1
      refine .inl ⟨by omega, ?_, fun y hy => ?_⟩
      · rcases Nat.le_total (lst A) (lst B ||| 2 ^ v) with c | c
        · rw [Nat.min_eq_left c]; exact tA'
        · rw [Nat.min_eq_right c]; exact tB'
      · cases q : M.tbl h y with
        | false => rfl
        | true => have := most y (by omega) q; omega
    · have e256 : lst B = 256 := by have := lst_le B; omega
      have big : 256 ≤ lst B ||| 2 ^ v := by rw [e256]; exact of_decide_eq_true (List.all_eq_true.1 or256 v (List.mem_range.2 hv))
      rw [Nat.min_eq_left (by omega)]
      refine .inl ⟨a8, by rw [at', bA]; exact tA, fun y hy => ?_⟩
      cases q : M.tbl h y with
      | false => rfl
      | true => have := most y (by omega) q; omega
  · by_cases b8 : lst B < 256
    · have tB := lst_at b8
      have bB := lst_bit hv b8 fun x hx => fB x hx false
      have g := fix_num b8 hv
      rw [bB, if_neg (by simp)] at g
      have fb := fixAt_bits b8 hv true
      have tB' : M.tbl h (lst B ||| 2 ^ v) = true := by
        rw [g.1, ← g.2, at', fb.2, Mdl.setA_same, if_pos rfl, fB _ b8]
        exact tB
      have lt : lst B ||| 2 ^ v < 256 := by rw [g.1, ← g.2]; exact fb.1
      rw [Nat.min_eq_right (by omega)]
      refine .inl ⟨lt, tB', fun y hy => ?_⟩
      cases q : M.tbl h y with
      | false => rfl
      | true => have := most y (by omega) q; omega
    · exfalso
      refine nc (.inl fun x hx => ?_)
      rw [at']
      have hA : A x = false := by
        cases q : A x with
        | false => rfl
        | true => have := lst_most q; omega
      have hB : B x = false := by
        cases q : B x with
        | false => rfl
        | true => have := lst_most q; omega
      rw [hA, hB, ite_self]

/-! ## Numbers told from the constants up -/
/-- What each node's number is, of its variable and its children's. -/
def Joins (M : Mdl) (J : Nat → Nat → Nat → Nat) (T : Nat → Nat) : Prop := ∀ h ∈ M.hs, T h = J (M.v (M.nd h).1) (T (M.nd h).2.1) (T (M.nd h).2.2)
def jCnt (_v a b : Nat) : Nat := a / 2 + b / 2
def jSup (v a b : Nat) : Nat := (a ||| b) ||| 2 ^ v
def jLst (v a b : Nat) : Nat := min a (b ||| 2 ^ v)
def tCnt (M : Mdl) (h : Nat) : Nat := countUpto (M.tbl h) (2 ^ M.n)
def tSup (M : Mdl) (h : Nat) : Nat := supUpto (M.tbl h) 8
def tLst (M : Mdl) (h : Nat) : Nat := lst (M.tbl h)
section
variable {M : Mdl}
theorem cnt_is (o : M.Ok) : Joins M jCnt (tCnt M) := fun h hm => by
  have := cnt_join o hm
  unfold tCnt jCnt
  omega
theorem sup_is (o : M.Ok) : Joins M jSup (tSup M) := fun _ hm => sup_join o hm
theorem lst_is' (o : M.Ok) : Joins M jLst (tLst M) := fun _ hm => lst_join o hm
theorem cnt_zero (M : Mdl) : tCnt M 0 = 0 := by
  unfold tCnt
  rw [cnt_congr (F := M.tbl 0) (G := fun _ => false) _ fun x _ => Mdl.val_zero _, cnt_const]
  rfl
theorem cnt_one (M : Mdl) : tCnt M 1 = 2 ^ M.n := by
  unfold tCnt
  rw [cnt_congr (F := M.tbl 1) (G := fun _ => true) _ fun x _ => Mdl.val_one _, cnt_const]
  rfl
theorem sup_zero (M : Mdl) : tSup M 0 = 0 := sup_cst (tbl_cst (by omega))
theorem sup_one (M : Mdl) : tSup M 1 = 0 := sup_cst (tbl_cst (by omega))
theorem lst_zero (M : Mdl) : tLst M 0 = 256 := (lst_is _).one (.inr ⟨rfl, fun _ _ => Mdl.val_zero _⟩)
theorem lst_one (M : Mdl) : tLst M 1 = 0 := (lst_is _).one (.inl ⟨by omega, Mdl.val_one _, fun y hy => absurd hy (Nat.not_lt_zero _)⟩)
theorem tCnt_le (M : Mdl) (h : Nat) : tCnt M h ≤ 2 ^ M.n := cnt_le _ _
theorem tSup_lt (M : Mdl) (h : Nat) : tSup M h < 256 := Rf.sup_lt _ 8 (Nat.le_refl _)
theorem tLst_le (M : Mdl) (h : Nat) : tLst M h ≤ 256 := lst_le _
end

/-! ## What is reached -/
/-- It holds the children of what it holds, but for constants. -/
def Closed (M : Mdl) (C : Nat → Prop) : Prop := ∀ h, C h → ((M.nd h).2.1 < 2 ∨ C (M.nd h).2.1) ∧ ((M.nd h).2.2 < 2 ∨ C (M.nd h).2.2)
theorem Closed.prt {M : Mdl} (o : M.Ok) {C : Nat → Prop} (cl : Closed M C) {x : Nat} (hx : x ∈ M.hs) (d : Nat) : ∀ {h : Nat}, M.isNode h → M.n - M.lev h ≤ d → (h < 2 ∨ C h) → Prt M (M.tbl h) (M.tbl x) → C x := by
  induction d with
  | zero =>
    intro h hh hd _ p
    refine absurd p (Prt.not_cst o (tbl_dep o hh (Nat.zero_le _)) (tbl_cst ?_))
    rcases hh with e | e
    · exact e
    · have := o.lv h e; rw [Mdl.lev_in o e] at hd; omega
  | succ d ih =>
    intro h hh hd hc p
    rcases hh with e | hm
    · exact absurd p (Prt.not_cst o (tbl_dep o (.inl e) (Nat.zero_le _)) (tbl_cst e))
    · have lv := o.lv h hm
      have l1 := o.lo h hm
      have l2 := o.hi h hm
      have ch : C h := hc.resolve_left (by have := (o.range h hm).1; omega)
      rw [Mdl.lev_in o hm] at hd
      have dp : Dep M (M.nd h).1 (M.tbl h) := tbl_dep o (.inr hm) (by rw [Mdl.lev_in o hm]; exact Nat.le_refl _)
      rcases (Prt.step o lv dp).1 p with ⟨e, _⟩ | q | q
      · rw [← (Mdl.one_iff o (.inr hm) (.inr hx)).1 e]; exact ch
      · exact ih l1.1 (by omega) (cl h ch).1 ((Prt.like o (tbl_dep o l1.1 (Nat.zero_le _)) (tbl_lo o hm)).2 q)
      · exact ih l2.1 (by omega) (cl h ch).2 ((Prt.like o (tbl_dep o l2.1 (Nat.zero_le _)) (tbl_hi o hm)).2 q)
end Go.Proofs.YtdjjelknjojnfaaGreat

namespace Go.Proofs.YtdjjelknjojnfaaGreat.Hm
open Go Go.RowKit

/-- What a list of pairs tells at a key. -/
def look : List (Int × Int) → Int → Option Int
  | [], _ => none
  | p :: l, k => if p.1 = k then some p.2 else look l k

theorem look_none {k : Int} : ∀ {l : List (Int × Int)}, look l k = none ↔ ∀ p ∈ l, p.1 ≠ k
  | [] => by simp [look]
  | p :: l => by
    have := look_none (k := k) (l := l)
    by_cases h : p.1 = k
    · simp [look, h]
    · simp [look, h, this]
theorem look_append (k : Int) (v : Int) (k' : Int) : ∀ (l : List (Int × Int)), look l k = none → look (l ++ [(k, v)]) k' = if k' = k then some v else look l k'
  | [], _ => by
    by_cases h : k' = k
    · simp [look, h]
    · have h' : ¬ k = k' := fun e => h e.symm
      simp [look, h, h']
  | p :: l, h => by
    have hp : p.1 ≠ k := look_none.1 h p (by simp)
    have hl : look l k = none := look_none.2 fun q hq => look_none.1 h q (by simp [hq])
    have := look_append k v k' l hl
    by_cases e : p.1 = k'
    · have : k' ≠ k := fun x => hp (e.trans x)
      simp [look, e, this]
    · simp [look, e, this]
theorem look_set (k v v0 k' : Int) : ∀ (l : List (Int × Int)) (j : Nat), (l.map (·.1)).Nodup → l[j]? = some (k, v0) → look (l.set j (k, v)) k' = if k' = k then some v else look l k'
  | [], j, _, h => by simp at h
  | p :: l, 0, _, h => by
    obtain rfl : p = (k, v0) := by simpa using h
    by_cases e : k' = k
    · simp [look, e]
    · have e' : ¬ k = k' := fun x => e x.symm
      simp [look, e, e']
  | p :: l, j + 1, hn, h => by
    have h' : l[j]? = some (k, v0) := by simpa using h
    have hn' : (l.map (·.1)).Nodup := (List.nodup_cons.1 (by simpa using hn)).2
    have hp : p.1 ≠ k := fun e => (List.nodup_cons.1 (show (p.1 :: l.map (·.1)).Nodup by simpa using hn)).1 (e ▸ List.mem_map.2 ⟨_, List.mem_of_getElem? h', rfl⟩)
    have := look_set k v v0 k' l j hn' h'
    by_cases e : p.1 = k'
    · have : k' ≠ k := fun x => hp (e.trans x)
      simp [look, e, this]
    · simp [look, e, this]
def pairV (p : Int × Int) : Value × Value := (.int .u32 p.1, .int .i64 p.2)

theorem find_spec (k : Int) : ∀ (es : List MapEntry) (l : List (Int × Int)) (i : Nat), es.map (fun e => (e.key, e.val)) = l.map pairV →
    (Instr.findNow (.int .u32) (.int .u32 k) es i = some none ∧ look l k = none) ∨ ∃ (j : Nat) (v : Int), Instr.findNow (.int .u32) (.int .u32 k) es i = some (some (i + j, .int .i64 v)) ∧ l[j]? = some (k, v) ∧ look l k = some v
  | [], l, i, h => by
    cases l with
    | nil => exact .inl ⟨rfl, rfl⟩
    | cons p l => simp at h
  | e :: es, l, i, h => by
    cases l with
    | nil => simp at h
    | cons p l =>
      simp only [List.map_cons, List.cons.injEq, pairV, Prod.mk.injEq] at h
      obtain ⟨⟨h1, h2⟩, h3⟩ := h
      by_cases c : p.1 = k
      · refine .inr ⟨0, p.2, ?_, by simp [← c], by simp [look, c]⟩
        simp [Instr.findNow, h1, h2, Instr.sameNow, c]
      · have c' : (k == p.1) = false := by
          rw [beq_eq_false_iff_ne]
          exact fun x => c x.symm
        rcases find_spec k es l (i + 1) h3 with ⟨a, b⟩ | ⟨j, v, a, b, d⟩
        · exact .inl ⟨by simp [Instr.findNow, h1, Instr.sameNow, c', a], by simp [look, c, b]⟩
        · refine .inr ⟨j + 1, v, ?_, by simpa using b, by simp [look, c, d]⟩
          simp [Instr.findNow, h1, Instr.sameNow, c', a]
          omega


theorem heap_turn {w : World} {b : Nat} {o' : Obj} : Went (fun k => k = b) w { w with heap := w.heap.setIfInBounds b o' } := by
  refine ⟨rfl, rfl, rfl, by simp, fun i _ hne => ?_⟩
  simp [Array.getElem?_setIfInBounds_ne (fun e => hne e.symm)]
theorem heap_now {w : World} {b : Nat} {o o' : Obj} (hb : w.heap[b]? = some o) : ({ w with heap := w.heap.setIfInBounds b o' } : World).heap[b]? = some o' := by
  have hlt : b < w.heap.size := (Array.getElem?_eq_some_iff.1 hb).1
  simp [hlt]
/-- The entries hold these pairs, each key once. -/
structure MapIs (es : Array MapEntry) (clock : Nat) (l : List (Int × Int)) : Prop where
  pairs : es.toList.map (fun e => (e.key, e.val)) = l.map pairV
  old : ∀ x ∈ es.toList, x.born < clock
  once : (es.toList.map (·.born)).Nodup
  nodup : (l.map (·.1)).Nodup
/-- The map in block b holds these pairs. -/
def IsM (w : World) (b : Nat) (l : List (Int × Int)) : Prop := ∃ (es : Array MapEntry) (clock : Nat), w.heap[b]? = some (.map es clock) ∧ MapIs es clock l
section
variable {w u : World} {b : Nat} {l : List (Int × Int)}
theorem IsM.lt (h : IsM w b l) : b < w.heap.size := by
  obtain ⟨es, clock, h, _⟩ := h
  exact (Array.getElem?_eq_some_iff.1 h).1
theorem IsM.same (h : IsM w b l) (e : u.heap[b]? = w.heap[b]?) : IsM u b l := by
  obtain ⟨es, clock, h, k⟩ := h
  exact ⟨es, clock, e.trans h, k⟩
theorem IsM.drew (h : IsM w b l) : IsM w.drew b l := h
theorem IsM.below (h : IsM w b l) (k : Below w.heap.size w u) : IsM u b l := h.same (k.block _ h.lt)
theorem IsM.fresh (w : World) : IsM (w.alloc (.map #[] 0)) w.heap.size [] :=
  ⟨#[], 0, (MapKept.heap_alloc w _).1, ⟨rfl, by simp, by simp, by simp⟩⟩
end

theorem isKey (k : Int) : MapKept.IsKey (.int .u32) (.int .u32 k) := by simp [MapKept.IsKey]
theorem zeroI (w : World) : (zeroValue 3).run Tryz.prog w = .ok (.int .i64 0) w := by kernel_rfl

theorem map_look {w : World} {b : Nat} {l : List (Int × Int)} (t : TypeId) (ht : Tryz.prog.underlying t = some (.map 30 3)) (h : IsM w b l) (k : Int) :
    (Instr.lookup t (.map (some b)) (.int .u32 k) true).run Tryz.prog w = .ok (.tuple #[.int .i64 ((look l k).getD 0), .bool (look l k).isSome]) w := by
  obtain ⟨es, clock, hb, h1⟩ := h
  have hc := MapKept.run_checkKey (w := w) Tryz.underlying30 (isKey k) es.isEmpty 9999
  rcases find_spec k es.toList l 0 h1.pairs with ⟨hf, hn⟩ | ⟨j, v, hf, hj, hl⟩
  · have hf' := MapKept.run_findKey (w := w) Tryz.underlying30 hf
    simp only [Instr.lookup, Sem.run_bind, run_underlying ht, Result.andThen_ok, MapKept.run_getObj_map hb, Sem.run_pure, hc, hf', zeroI, hn]
    rfl
  · have hf' := MapKept.run_findKey (w := w) Tryz.underlying30 hf
    simp only [Instr.lookup, Sem.run_bind, run_underlying ht, Result.andThen_ok, MapKept.run_getObj_map hb, Sem.run_pure, hc, hf', hl]
    rfl
theorem pairs_len {es : List MapEntry} {l : List (Int × Int)} (h : es.map (fun e => (e.key, e.val)) = l.map pairV) : es.length = l.length := by
  have := congrArg List.length h
  simpa using this
theorem map_len {w : World} {b : Nat} {l : List (Int × Int)} (t : TypeId) (ht : Tryz.prog.underlying t = some (.map 30 3)) (h : IsM w b l) (ty : TypeId) : (Builtin.len_ #[t] ty #[.map (some b)]).run Tryz.prog w = .ok (.int .i64 (l.length : Int)) w := by
  obtain ⟨es, clock, hb, k⟩ := h
  have := pairs_len k.pairs
  simp only [Builtin.len_, List.getElem?_toArray, List.getElem?_cons_zero, Sem.run_bind, run_underlying ht, Result.andThen_ok, MapKept.run_getObj_map hb]
  rw [← this]
  rfl
theorem map_len_nil (t : TypeId) (ht : Tryz.prog.underlying t = some (.map 30 3)) (w : World) (ty : TypeId) : (Builtin.len_ #[t] ty #[.map none]).run Tryz.prog w = .ok (.int .i64 0) w := by
  simp only [Builtin.len_, List.getElem?_toArray, List.getElem?_cons_zero, Sem.run_bind, run_underlying ht, Result.andThen_ok]
  rfl
theorem map_put {w : World} {b : Nat} {l : List (Int × Int)} (t : TypeId) (ht : Tryz.prog.underlying t = some (.map 30 3)) (h : IsM w b l) (k v : Int) :
    ∃ w', (Instr.mapUpdate t (.map (some b)) (.int .u32 k) (.int .i64 v)).run Tryz.prog w = .ok () w' ∧ (∃ l', IsM w' b l' ∧ (∀ k', look l' k' = if k' = k then some v else look l k') ∧ (look l k = none → l' = l ++ [(k, v)])) ∧ Went (fun k => k = b) w w' ∧ w'.heap.size = w.heap.size := by
  obtain ⟨es, clock, hb, h1⟩ := h
  have hc := MapKept.run_checkKey (w := w) Tryz.underlying30 (isKey k) false 9999
  rcases find_spec k es.toList l 0 h1.pairs with ⟨hf, hn⟩ | ⟨j, u, hf, hj, hl⟩
  · have hf' := MapKept.run_findKey (w := w) Tryz.underlying30 hf
    refine ⟨{ w with heap := w.heap.setIfInBounds b (.map (es.push { key := .int .u32 k, val := .int .i64 v, born := clock }) (clock + 1)) }, ?_, ⟨l ++ [(k, v)], ⟨_, _, heap_now hb, ⟨?_, ?_, ?_, ?_⟩⟩, ?_, fun _ => rfl⟩, heap_turn, by simp⟩
    · simp only [Instr.mapUpdate, Sem.run_bind, run_underlying ht, Result.andThen_ok, MapKept.run_getObj_map hb, hc, hf']
      exact MapKept.run_setObj_map _ hb
    · simp [h1.pairs, pairV]
    · intro x hx
      simp at hx
      rcases hx with hx | rfl
      · have := h1.old x (by simpa using hx); omega
      · simp
    · rw [Array.toList_push, List.map_append, List.nodup_append]
      refine ⟨h1.once, by simp, fun a ha c hc' => ?_⟩
      simp at hc'
      subst hc'
      obtain ⟨x, hx, rfl⟩ := List.mem_map.1 ha
      have := h1.old x hx
      omega
    · rw [List.map_append, List.nodup_append]
      refine ⟨h1.nodup, by simp, fun a ha c hc' => ?_⟩
      simp at hc'
      subst hc'
      obtain ⟨p, hp, rfl⟩ := List.mem_map.1 ha
      exact look_none.1 hn p hp
    · intro k'
      rw [look_append k v k' l hn]
  · have hf' := MapKept.run_findKey (w := w) Tryz.underlying30 hf
    rw [Nat.zero_add] at hf'
    have hjk : (es[j]?).map (fun e => (e.key, e.val)) = some (pairV (k, u)) := by
      have h4 := congrArg (·[j]?) h1.pairs
      simp only [List.getElem?_map, hj, Option.map_some] at h4
      simpa using h4
    obtain ⟨e, he, hek⟩ := Option.map_eq_some_iff.1 hjk
    simp only [pairV, Prod.mk.injEq] at hek
    have hks := MapKept.run_keyThatStays (P := Tryz.prog) (w := w) (isKey k)
    have hb2 : (es.modify j fun e => { e with key := .int .u32 k, val := .int .i64 v }).toList.map (·.born) = es.toList.map (·.born) := by
      rw [Array.toList_modify]
      apply List.ext_getElem?
      intro i
      simp only [List.getElem?_map, List.getElem?_modify]
      by_cases e2 : j = i
      · subst e2; simp only [if_true]; cases es.toList[j]? <;> rfl
      · simp [e2]
    refine ⟨{ w with heap := w.heap.setIfInBounds b (.map (es.modify j fun e => { e with key := .int .u32 k, val := .int .i64 v }) clock) }, ?_, ⟨l.set j (k, v), ⟨_, _, heap_now hb, ⟨?_, ?_, by rw [hb2]; exact h1.once, ?_⟩⟩, ?_, fun q => by rw [hl] at q; cases q⟩, heap_turn, by simp⟩
    · simp only [Instr.mapUpdate, Sem.run_bind, run_underlying ht, Result.andThen_ok, MapKept.run_getObj_map hb, hc, hf', he, Option.map_some, Option.getD_some, hek.1, hks]
      exact MapKept.run_setObj_map _ hb
    · rw [Array.toList_modify]
      apply List.ext_getElem?
      intro i
      have h4 := congrArg (·[i]?) h1.pairs
      simp only [List.getElem?_map] at h4
      simp only [List.getElem?_map, List.getElem?_modify, List.getElem?_set]
      by_cases e2 : j = i
      · subst e2
        have hlt : j < l.length := (List.getElem?_eq_some_iff.1 hj).1
        have he2 : es.toList[j]? = some e := by simpa using he
        simp [hlt, he2, pairV]
      · simp only [e2, if_false]
        rw [← h4]
        simp
    · intro x hx
      have hx2 : x.born ∈ (es.modify j fun e => { e with key := .int .u32 k, val := .int .i64 v }).toList.map (·.born) := List.mem_map.2 ⟨x, hx, rfl⟩
      rw [hb2] at hx2
      obtain ⟨y, hy, hyx⟩ := List.mem_map.1 hx2
      rw [← hyx]
      exact h1.old y hy
    · have : (l.set j (k, v)).map (·.1) = l.map (·.1) := by
        apply List.ext_getElem?
        intro i
        simp only [List.getElem?_map, List.getElem?_set]
        by_cases e2 : j = i
        · subst e2
          have hlt : j < l.length := (List.getElem?_eq_some_iff.1 hj).1
          have hj' : l[j] = (k, u) := Option.some.inj ((List.getElem?_eq_getElem hlt).symm.trans hj)
          simp [hlt, hj']
        · simp [e2]
      rw [this]
      exact h1.nodup
    · intro k'
      rw [look_set k v u k' l j h1.nodup hj]

/-! ## Going through the keys -/
/-- A map's walker: which of its keys it has handed out. -/
structure Iter (w : World) (it b : Nat) (l : List (Int × Int)) (vs : List Int) : Prop where
  ex : ∃ es clock seen, w.heap[b]? = some (.map es clock) ∧ MapIs es clock l ∧ w.heap[it]? = some (.mapIter (some b) clock seen clock) ∧ ∃ vis : List MapEntry, vis.map (·.key) = vs.map (Value.int .u32) ∧ seen.toList = vis.map (·.born) ∧ (∀ x ∈ vis, x ∈ es.toList) ∧ (vis.map (·.born)).Nodup
theorem Iter.start {w : World} (t : TypeId) (ht : Tryz.prog.underlying t = some (.map 30 3)) {b : Nat} {es : Array MapEntry} {clock : Nat} {l : List (Int × Int)} (hb : w.heap[b]? = some (.map es clock)) (k : MapIs es clock l) :
    (Instr.range t (.map (some b))).run Tryz.prog w = .ok (.pointer (some ⟨w.heap.size, 0, none⟩)) (w.alloc (.mapIter (some b) clock #[] clock)) ∧ Iter (w.alloc (.mapIter (some b) clock #[] clock)) w.heap.size b l [] := by
  have hlt : b < w.heap.size := (Array.getElem?_eq_some_iff.1 hb).1
  refine ⟨run_range_map w t 30 3 b es clock ht hb, ⟨es, clock, #[], ?_, k, (MapKept.heap_alloc w _).1, [], rfl, rfl, by simp, by simp⟩⟩
  exact (Below.heap_alloc w _ b hlt).trans hb
theorem Iter.same {w u : World} {it b : Nat} {l : List (Int × Int)} {vs : List Int} (h : Iter w it b l vs) (e1 : u.heap[b]? = w.heap[b]?) (e2 : u.heap[it]? = w.heap[it]?) : Iter u it b l vs := by
  obtain ⟨es, clock, seen, h1, h2, h3, h4⟩ := h.ex
  exact ⟨es, clock, seen, e1.trans h1, h2, e2.trans h3, h4⟩
theorem Iter.blocks {w : World} {it b : Nat} {l : List (Int × Int)} {vs : List Int} (h : Iter w it b l vs) : ∃ es clock seen, w.heap[b]? = some (.map es clock) ∧ w.heap[it]? = some (.mapIter (some b) clock seen clock) := by
  obtain ⟨es, clock, seen, h1, h2, h3, h4⟩ := h.ex
  exact ⟨es, clock, seen, h1, h3⟩
theorem key_at {es : List MapEntry} {l : List (Int × Int)} (h : es.map (fun e => (e.key, e.val)) = l.map pairV) {e : MapEntry} (he : e ∈ es) : ∃ p ∈ l, e.key = .int .u32 p.1 ∧ e.val = .int .i64 p.2 := by
  have : (e.key, e.val) ∈ es.map (fun e => (e.key, e.val)) := List.mem_map.2 ⟨e, he, rfl⟩
  rw [h] at this
  obtain ⟨p, hp, hk⟩ := List.mem_map.1 this
  simp only [pairV, Prod.mk.injEq] at hk
  exact ⟨p, hp, hk.1.symm, hk.2.symm⟩
theorem keys_inj {es : List MapEntry} {l : List (Int × Int)} (h : es.map (fun e => (e.key, e.val)) = l.map pairV) (hn : (l.map (·.1)).Nodup) {x y : MapEntry} (hx : x ∈ es) (hy : y ∈ es) (e : x.key = y.key) : x = y := by
  obtain ⟨i, hi⟩ := List.mem_iff_getElem?.1 hx
  obtain ⟨j, hj⟩ := List.mem_iff_getElem?.1 hy
  have h1 := congrArg (·[i]?) h
  have h2 := congrArg (·[j]?) h
  simp only [List.getElem?_map, hi, hj, Option.map_some] at h1 h2
  obtain ⟨s, hs1, hs2⟩ := Option.map_eq_some_iff.1 h1.symm
  obtain ⟨t, ht1, ht2⟩ := Option.map_eq_some_iff.1 h2.symm
  simp only [pairV, Prod.mk.injEq] at hs2 ht2
  have hst : s.1 = t.1 := by
    have : Value.int .u32 s.1 = Value.int .u32 t.1 := by rw [hs2.1, ht2.1, e]
    injection this
  have hij : i = j := by
    have e1 : (l.map (·.1))[i]? = some s.1 := by simp [hs1]
    have e2 : (l.map (·.1))[j]? = some s.1 := by simp [ht1, hst]
    exact (List.getElem?_inj (List.getElem?_eq_some_iff.1 e1).1 hn).1 (e1.trans e2.symm)
  subst hij
  exact Option.some.inj (hi.symm.trans hj)
/-- The walker's next step: none is left, and all have been handed out; or one more, whichever. -/
theorem Iter.next {w : World} {it b : Nat} {l : List (Int × Int)} {vs : List Int} (h : Iter w it b l vs) (ty : TypeId) :
    ((∀ p ∈ l, p.1 ∈ vs) ∧ (Instr.next (.pointer (some ⟨it, 0, none⟩)) false ty).run Tryz.prog w = .ok (.tuple #[.bool false]) w) ∨
    ∃ (t v : Int) (w' : World), (t, v) ∈ l ∧ t ∉ vs ∧ (Instr.next (.pointer (some ⟨it, 0, none⟩)) false ty).run Tryz.prog w = .ok (.tuple #[.bool true, .int .u32 t, .int .i64 v]) w' ∧ Iter w' it b l (vs ++ [t]) ∧ Went (fun k => k = it) w w' ∧ w'.heap.size = w.heap.size ∧ (Instr.entry (.pointer (some ⟨it, 0, none⟩))).run Tryz.prog w' = .ok (.tuple #[.int .u32 t, .int .i64 v]) w' := by
  obtain ⟨es, clock, seen, hb, k, hi, vis, hv1, hv2, hv3, hv4⟩ := h.ex
  have hne : it ≠ b := fun e => by rw [e, hb] at hi; cases hi
  have hold := k.old
  have hcont : ∀ x : MapEntry, x ∈ es.toList → (seen.contains x.born = true ↔ x ∈ vis) := by
    intro x hx
    rw [Array.contains_iff_mem, ← Array.mem_toList_iff, hv2, List.mem_map]
    constructor
    · rintro ⟨y, hy, e⟩
      rw [← born_inj k.once (hv3 y hy) hx e]
      exact hy
    · intro hxv
      exact ⟨x, hxv, rfl⟩
  simp only [Instr.next, getObj, Sem.run_bind, Sem.run, hi, hb, Result.andThen, next_test_false seen es clock clock hold (Nat.le_refl _), Bool.false_eq_true, if_false]
  have hL : ∀ x, x ∈ (Array.filter (fun e => !seen.contains e.born) es).toList ↔ x ∈ es.toList ∧ x ∉ vis := by
    intro x
    rw [Array.mem_toList_iff, Array.mem_filter, Array.mem_toList_iff]
    constructor
    · rintro ⟨h1, h2⟩
      refine ⟨h1, fun hxv => ?_⟩
      have := (hcont x (Array.mem_toList_iff.2 h1)).2 hxv
      rw [this] at h2
      cases h2
    · rintro ⟨h1, h2⟩
      refine ⟨h1, ?_⟩
      cases hc : seen.contains x.born with
      | false => rfl
      | true => exact absurd ((hcont x (Array.mem_toList_iff.2 h1)).1 hc) h2
  generalize Array.filter (fun e => !seen.contains e.born) es = L at hL
  have hmem : ∀ x ∈ L.toList, x.born < clock := fun x hx => hold x ((hL x).1 hx).1
  have e1 : L.filter (fun x => decide (x.born < clock)) = L := Array.filter_eq_self.2 (fun x hx => by simpa using hmem x (by simpa using hx))
  have e2 : L.filter (fun x => decide (x.born ≥ clock)) = #[] := by
    rw [Array.filter_eq_empty_iff]
    intro x hx
    have := hmem x (by simpa using hx)
    simp
    omega
  simp only [e1, e2, Array.append_empty]
  by_cases h0 : L.size = 0
  · left
    have : L = #[] := Array.eq_empty_of_size_eq_zero h0
    subst this
    refine ⟨fun p hp => ?_, by simp [choose, Sem.run, Question.forced]⟩
    have hk : pairV p ∈ es.toList.map (fun e => (e.key, e.val)) := by rw [k.pairs]; exact List.mem_map.2 ⟨p, hp, rfl⟩
    obtain ⟨x, hx, hxk⟩ := List.mem_map.1 hk
    simp only [pairV, Prod.mk.injEq] at hxk
    have hxv : x ∈ vis := by
      apply Classical.byContradiction
      intro hn
      have := (hL x).2 ⟨hx, hn⟩
      simp at this
    have : x.key ∈ vis.map (·.key) := List.mem_map.2 ⟨x, hxv, rfl⟩
    rw [hv1, hxk.1] at this
    obtain ⟨u, hu, hue⟩ := List.mem_map.1 this
    injection hue with _ hue
    rw [← hue]
    exact hu
  · right
    have hnem : L.isEmpty = false := by simp [Array.isEmpty, h0]
    simp only [hnem, Bool.false_eq_true, if_false, Array.empty_append, Array.size_map]
    have hch : ∃ (j : Nat) (w1 : World), j < L.size ∧ w1.Alike w ∧ w1.tape = w.tape ∧ (choose (Question.mapNext L.size)).run Tryz.prog w = .ok j w1 := by
      by_cases hf : L.size ≤ 1
      · exact ⟨0, w, by omega, ⟨rfl, rfl, rfl⟩, rfl, by simp [choose, Sem.run, Question.forced, hf]⟩
      · exact ⟨_, w.drew, Nat.mod_lt _ (by omega), ⟨rfl, rfl, rfl⟩, rfl, by
          simp only [choose, Sem.run, Question.forced, decide_eq_true_eq, hf, if_false, Question.cut]
          rfl⟩
    obtain ⟨j, w1, hj, hal, htape, hrun⟩ := hch
    have hjm : L[j] ∈ L.toList := by simp
    obtain ⟨hje, hjv⟩ := (hL _).1 hjm
    obtain ⟨p, hp, hkt, hkv⟩ := key_at k.pairs hje
    have hi1 : w1.heap[it]? = some (.mapIter (some b) clock seen clock) := by rw [hal.1]; exact hi
    have hb1 : w1.heap[b]? = some (.map es clock) := by rw [hal.1]; exact hb
    have hset : ∀ o' : Obj, (setObj it o').run Tryz.prog w1 = .ok () { w1 with heap := w1.heap.setIfInBounds it o' } := fun o' => by
      simp [setObj, Sem.run, hi1]
    have hit' := heap_now (o' := .mapIter (some b) clock (seen.push L[j].born) clock) hi1
    have hb' : ({ w1 with heap := w1.heap.setIfInBounds it (.mapIter (some b) clock (seen.push L[j].born) clock) } : World).heap[b]? = some (.map es clock) := by
      simp only [Array.getElem?_setIfInBounds_ne hne]
      exact hb1
    refine ⟨p.1, p.2, { w1 with heap := w1.heap.setIfInBounds it (.mapIter (some b) clock (seen.push L[j].born) clock) }, hp, fun htv => ?_, ?_, ⟨es, clock, _, hb', k, hit', vis ++ [L[j]], ?_, ?_, ?_, ?_⟩, ?_, ?_, ?_⟩
    · have : Value.int .u32 p.1 ∈ vis.map (·.key) := by rw [hv1]; exact List.mem_map.2 ⟨p.1, htv, rfl⟩
      obtain ⟨y, hy, hyk⟩ := List.mem_map.1 this
      have := keys_inj k.pairs k.nodup (hv3 y hy) hje (by rw [hyk, hkt])
      exact hjv (this ▸ hy)
    · simp only [hrun, Array.getElem?_map, Array.getElem?_eq_getElem hj, Option.map_some, Sem.run_bind, hset, Result.andThen, hkt, hkv]
      rfl
    · simp [hv1, hkt]
    · simp [hv2]
    · intro x hx
      rcases List.mem_append.1 hx with hx | hx
      · exact hv3 x hx
      · simp at hx; subst hx; exact hje
    · rw [List.map_append, List.nodup_append]
      refine ⟨hv4, by simp, fun a ha c hc => ?_⟩
      simp at hc
      subst hc
      obtain ⟨y, hy, rfl⟩ := List.mem_map.1 ha
      intro e
      exact hjv (born_inj k.once (hv3 y hy) hje e ▸ hy)
    · have ht2 := heap_turn (w := w1) (b := it) (o' := .mapIter (some b) clock (seen.push L[j].born) clock)
      refine ⟨hal.2.1, htape, hal.2.2, ?_, fun i hi2 hne2 => ?_⟩
      · rw [← hal.1]; exact ht2.size
      · rw [ht2.block i (by rw [hal.1]; exact hi2) hne2, hal.1]
    · simp [hal.1]
    · have hf : es.find? (·.born == L[j].born) = some L[j] := by rw [← Array.find?_toList]; exact find_born L[j] es.toList k.once hje
      simp only [Instr.entry, getObj, Sem.run_bind, Sem.run, hit', hb', Result.andThen, Array.back?_push, bne_self_eq_false, Bool.false_eq_true, if_false, hf, hkt, hkv]
      rfl
end Go.Proofs.YtdjjelknjojnfaaGreat.Hm

namespace Go.Proofs.YtdjjelknjojnfaaGreat
open Go Go.RowKit

theorem or_i64 (a b : Nat) (ha : a < 512) (hb : b < 512) : bits .or .i64 (a : Int) (b : Int) = ((a ||| b : Nat) : Int) := by
  have hx : a ||| b < 2 ^ 9 := Nat.or_lt_two_pow (by omega) (by omega)
  show IntKind.i64.wrap ((BitVec.ofInt 64 (a : Int) ||| BitVec.ofInt 64 (b : Int)).toNat : Int) = _
  rw [BitVec.toNat_or, ofInt_u64 a (by omega), ofInt_u64 b (by omega), IntKind.wrap_i64]
  omega
theorem pow_i64 {v : Nat} (hv : v < 9) : ∃ p : Nat, 2 ^ v = p ∧ p < 512 ∧ (2 : Int) ^ v = (p : Int) ∧ IntKind.i64.wrap ((2 : Int) ^ v) = (p : Int) := by
  have h : (2 : Nat) ^ v < 2 ^ 9 := Nat.pow_lt_pow_right (by omega) hv
  have e : (2 : Int) ^ v = ((2 ^ v : Nat) : Int) := by push_cast; rfl
  refine ⟨2 ^ v, rfl, h, e, ?_⟩
  rw [e, IntKind.wrap_i64]
  have : ((2 ^ v : Nat) : Int) < 512 := Int.ofNat_lt.2 h
  have : 0 ≤ ((2 ^ v : Nat) : Int) := Int.natCast_nonneg _
  omega
theorem jsup_any (v a b : Nat) (hv : v < 8) (ha : a < 256) (hb : b < 256) (w : World) :
    Calls Tryz.prog 81 #[.int .i64 (v : Int), .int .i64 (a : Int), .int .i64 (b : Int)] w fun e w' => e = .returned (.int .i64 (jSup v a b : Int)) ∧ w' = w := by
  have h1 := or_i64 a b (by omega) (by omega)
  have hx : a ||| b < 2 ^ 8 := Nat.or_lt_two_pow (by omega) (by omega)
  unfold jSup
  obtain ⟨x, hx'⟩ : ∃ x, a ||| b = x := ⟨_, rfl⟩
  rw [hx'] at h1 hx ⊢
  obtain ⟨p, hp, p9, q1, q2⟩ := pow_i64 (v := v) (by omega)
  rw [hp]
  have h2 := or_i64 x p (by omega) (by omega)
  have m1 : min v 64 = v := by omega
  clear hx' hp
  go_enter Tryz.func81, Tryz.ntmps81
  go_wp2_with fail
  go_ret
  exact ⟨rfl, rfl⟩
end Go.Proofs.YtdjjelknjojnfaaGreat

namespace Go.Proofs.YtdjjelknjojnfaaGreat
open Go Go.RowKit
open Rf (fixAt fixF)
attribute [local go_sem] Ch.run_store_func

/-- The map tells the numbers of nodes alone, the constants' among them. -/
structure Good (M : Mdl) (T : Nat → Nat) (l : List (Int × Int)) : Prop where
  zero : Hm.look l 0 = some (T 0 : Int)
  one : Hm.look l 1 = some (T 1 : Int)
  all : ∀ k v, Hm.look l k = some v → ∃ h : Nat, M.isNode h ∧ k = (h : Int) ∧ v = (T h : Int)
/-- All but the map is as it was, and the map is good. -/
structure Wk (M : Mdl) (T : Nat → Nat) (b : Nat) (w u : World) : Prop where
  went : Went (fun k => k = b) w u
  map : ∃ l, Hm.IsM u b l ∧ Good M T l
def wkV (S rb n f b : Nat) : Value := .agg #[.pointer (some ⟨S, 0, none⟩), .slice (some ⟨rb, 0, none⟩) n n, .func (.func f) #[] #[], .map (some b)]
/-- A block that holds a walk. -/
def IsWk (w : World) (g S rb n f b : Nat) : Prop := w.heap[g]? = some (.cells #[.pointer (some ⟨S, 0, none⟩), .slice (some ⟨rb, 0, none⟩) n n, .func (.func f) #[] #[], .map (some b)] 156 (0, 0))
section
variable {w w' u : World} {g S rb n f b h : Nat} {F0 : Nat → Prop} {M : Mdl} {T : Nat → Nat}
theorem IsWk.cells (i : IsWk w g S rb n f b) : w.cell? ⟨g, 0, none⟩ = some (.pointer (some ⟨S, 0, none⟩)) ∧ w.cell? ⟨g, 1, none⟩ = some (.slice (some ⟨rb, 0, none⟩) n n) ∧ w.cell? ⟨g, 2, none⟩ = some (.func (.func f) #[] #[]) ∧ w.cell? ⟨g, 3, none⟩ = some (.map (some b)) := by
  unfold IsWk at i
  refine ⟨?_, ?_, ?_, ?_⟩ <;> simp [World.cell?, i]
theorem IsWk.new (w : World) (S rb n f b : Nat) : IsWk (w.alloc (.cells #[.pointer (some ⟨S, 0, none⟩), .slice (some ⟨rb, 0, none⟩) n n, .func (.func f) #[] #[], .map (some b)] 156)) w.heap.size S rb n f b := Go.Deep.blk_alloc_new _ _
theorem IsWk.lt (i : IsWk w g S rb n f b) : g < w.heap.size := (Array.getElem?_eq_some_iff.1 i).1
theorem Wk.refl (m : ∃ l, Hm.IsM w b l ∧ Good M T l) : Wk M T b w w := ⟨⟨rfl, rfl, rfl, Nat.le_refl _, fun _ _ _ => rfl⟩, m⟩
theorem Wk.drew (k : Wk M T b w u) : Wk M T b w u.drew := ⟨⟨k.went.os, k.went.tape, k.went.output, k.went.size, k.went.block⟩, k.map⟩
theorem Wk.trans (k : Wk M T b w u) (q : Wk M T b u w') : Wk M T b w w' :=
  ⟨⟨q.went.os.trans k.went.os, q.went.tape.trans k.went.tape, q.went.output.trans k.went.output, Nat.le_trans k.went.size q.went.size, fun i hi hne => (q.went.block i (Nat.lt_of_lt_of_le hi k.went.size) hne).trans (k.went.block i hi hne)⟩, q.map⟩
theorem Wk.st (k : Wk M T b w u) (s : St w S F0 M) (hnb : ¬ F0 b) : St u S F0 M := s.kept fun i hi => k.went.block i (s.lt i hi) fun e => hnb (e ▸ hi)
theorem map_apart {cs : Array Value} {t : TypeId} {fr : Nat × Nat} {l : List (Int × Int)} {i : Nat} (m : Hm.IsM w b l) (hc : w.heap[i]? = some (.cells cs t fr)) : i ≠ b := fun e => by
  obtain ⟨es, ck, hb, _⟩ := m
  rw [e, hb] at hc
  cases hc
theorem Wk.row (k : Wk M T b w u) (m : ∃ l, Hm.IsM w b l ∧ Good M T l) {e : TypeId} {V : Nat → Value} (r : w.rowIs rb e n V) : u.rowIs rb e n V := by
  obtain ⟨l, m, _⟩ := m
  obtain ⟨cs, hb, _⟩ := id r
  exact r.of_block (k.went.block rb r.lt (map_apart m hb))
theorem Wk.box (k : Wk M T b w u) (m : ∃ l, Hm.IsM w b l ∧ Good M T l) (i : IsWk w g S rb n f b) : IsWk u g S rb n f b := by
  obtain ⟨l, m, _⟩ := m
  exact (k.went.block g i.lt (map_apart m i)).trans i
theorem Good.put {l l' : List (Int × Int)} (q : Good M T l) (o : M.Ok) (hm : h ∈ M.hs) (e : ∀ k', Hm.look l' k' = if k' = (h : Int) then some (T h : Int) else Hm.look l k') : Good M T l' := by
  have h2 := (o.range h hm).1
  refine ⟨by rw [e, if_neg (by omega)]; exact q.zero, by rw [e, if_neg (by omega)]; exact q.one, fun k v hk => ?_⟩
  rw [e] at hk
  by_cases c : k = (h : Int)
  · rw [if_pos c] at hk
    exact ⟨h, .inr hm, c, (Option.some.inj hk).symm⟩
  · rw [if_neg c] at hk
    exact q.all k v hk

/-- What joins the children's numbers. -/
def JoinC (M : Mdl) (T : Nat → Nat) (f : Nat) : Prop := ∀ h ∈ M.hs, ∀ u, Calls Tryz.prog f #[.int .i64 (M.v (M.nd h).1 : Int), .int .i64 (T (M.nd h).2.1 : Int), .int .i64 (T (M.nd h).2.2 : Int)] u fun e w' => e = .returned (.int .i64 (T h : Int)) ∧ w' = u
set_option maxRecDepth 100000 in
set_option maxHeartbeats 2000000 in
theorem number_step (s : St w S F0 M) (hnb : ¬ F0 b) (row : w.rowIs rb 3 M.n (fun i => .int .i64 (M.v i : Int))) (mp : ∃ l, Hm.IsM w b l ∧ Good M T l) (hf : ∀ (vs : Array Value) (w : World), (callFunc f vs).run Tryz.prog w = .ok (.enter f vs) w) (jc : JoinC M T f) (hh : M.isNode h)
    (ih : ∀ (u : World) (c : Nat), St u S F0 M → u.rowIs rb 3 M.n (fun i => .int .i64 (M.v i : Int)) → (∃ l, Hm.IsM u b l ∧ Good M T l) → M.isNode c → M.lev h < M.lev c → Calls Tryz.prog 95 #[wkV S rb M.n f b, .int .u32 (c : Int)] u fun e u' => e = .returned (.int .i64 (T c : Int)) ∧ Wk M T b u u') :
    Calls Tryz.prog 95 #[wkV S rb M.n f b, .int .u32 (h : Int)] w fun e w' => e = .returned (.int .i64 (T h : Int)) ∧ Wk M T b w w' := by
  have ok := s.ok
  have hb := Mdl.isNode_lt ok hh
  unfold wkV at ih ⊢
  go_enter Tryz.func95, Tryz.ntmps95
  go_upto_region 1 with fail
  have i1 := IsWk.new w S rb M.n f b
  have B1 := nb w (.cells #[.pointer (some ⟨S, 0, none⟩), .slice (some ⟨rb, 0, none⟩) M.n M.n, .func (.func f) #[] #[], .map (some b)] 156)
  have s1 := s.below B1
  have row1 := row.of_block (B1.block rb row.lt)
  have mp1 : ∃ l, Hm.IsM (w.alloc (.cells #[.pointer (some ⟨S, 0, none⟩), .slice (some ⟨rb, 0, none⟩) M.n M.n, .func (.func f) #[] #[], .map (some b)] 156)) b l ∧ Good M T l := by
    obtain ⟨l, m, q⟩ := mp
    exact ⟨l, m.below B1, q⟩
  have B1A : Aside (Below w.heap.size w (w.alloc (.cells #[.pointer (some ⟨S, 0, none⟩), .slice (some ⟨rb, 0, none⟩) M.n M.n, .func (.func f) #[] #[], .map (some b)] 156))) := B1
  clear B1 s row mp
  generalize w.alloc (.cells #[.pointer (some ⟨S, 0, none⟩), .slice (some ⟨rb, 0, none⟩) M.n M.n, .func (.func f) #[] #[], .map (some b)] 156) = w1 at i1 s1 row1 mp1 B1A ⊢
  obtain ⟨g, hg⟩ : ∃ g, w.heap.size = g := ⟨_, rfl⟩
  rw [hg] at i1
  conv in (occs := *) (Value.pointer (some ⟨w.heap.size, 0, none⟩)) => all_goals rw [hg]
  clear hg
  obtain ⟨C0, C1, C2, C3⟩ := i1.cells
  obtain ⟨l, ml, ql⟩ := id mp1
  have LK := Hm.map_look 154 Tryz.underlying154 ml (h : Int)
  cases hq : Hm.look l (h : Int) with
  | some v =>
    rw [hq] at LK
    obtain ⟨h', hn', e', rfl⟩ := ql.all _ _ hq
    obtain rfl : h = h' := by omega
    simp only [Option.getD_some, Option.isSome_some] at LK
    clear hq ql e' ih jc
    go_wp2_with fail
    go_ret
    exact ⟨rfl, ⟨⟨B1A.out.os, B1A.out.tape, B1A.out.output, B1A.out.size, fun k hk _ => B1A.out.block k hk⟩, mp1⟩⟩
  | none =>
    have hm : h ∈ M.hs := by
      rcases hh with c | c
      · exfalso
        have : h = 0 ∨ h = 1 := by omega
        rcases this with rfl | rfl
        · have := ql.zero; rw [show ((0 : Nat) : Int) = 0 from rfl] at hq; rw [hq] at this; cases this
        · have := ql.one; rw [show ((1 : Nat) : Int) = 1 from rfl] at hq; rw [hq] at this; cases this
      · exact c
    rw [hq] at LK
    simp only [Option.getD_none, Option.isSome_none] at LK
    clear hq ql
    go_upto_region 4 with fail
    clear LK C0 C1 C2 C3 ml
    have lvn := ok.lv h hm
    have llo := ok.lo h hm
    have lhi := ok.hi h hm
    have KJ := jc h hm
    have wk1 : Wk M T b w1 w1 := Wk.refl mp1
    have KL : ∀ u, Wk M T b w1 u → Calls Tryz.prog 53 #[.pointer (some ⟨S, 0, none⟩), .int .u32 (h : Int)] u fun e w' => e = .returned (.int .i64 ((M.nd h).1 : Int)) ∧ w' = u := fun u k => by
      have := lv_any (k.st s1 hnb) hh
      rwa [Mdl.lev_in ok hm] at this
    have KA : ∀ u, Wk M T b w1 u → Calls Tryz.prog 54 #[.pointer (some ⟨S, 0, none⟩), .int .u32 (h : Int)] u fun e w' => e = .returned (.int .u32 ((M.nd h).2.1 : Int)) ∧ w' = u := fun u k => by
      have := s_low (k.st s1 hnb) h (by omega)
      rwa [Mdl.lowN_in ok hm] at this
    have KB : ∀ u, Wk M T b w1 u → Calls Tryz.prog 55 #[.pointer (some ⟨S, 0, none⟩), .int .u32 (h : Int)] u fun e w' => e = .returned (.int .u32 ((M.nd h).2.2 : Int)) ∧ w' = u := fun u k => by
      have := s_high (k.st s1 hnb) h (by omega)
      rwa [Mdl.highN_in ok hm] at this
    have KN : ∀ u, Wk M T b w1 u → ∀ c, M.isNode c ∧ (M.nd h).1 < M.lev c → Calls Tryz.prog 95 #[.agg #[.pointer (some ⟨S, 0, none⟩), .slice (some ⟨rb, 0, none⟩) M.n M.n, .func (.func f) #[] #[], .map (some b)], .int .u32 (c : Int)] u fun e u' => e = .returned (.int .i64 (T c : Int)) ∧ Wk M T b w1 u' := fun u k c hc =>
      (ih u c (k.st s1 hnb) (k.row mp1 row1) k.map hc.1 (by rw [Mdl.lev_in ok hm]; exact hc.2)).mono fun e u' q => ⟨q.1, k.trans q.2⟩
    have lc0 : ∀ u, Wk M T b w1 u → u.cell? ⟨g, 0, none⟩ = some (.pointer (some ⟨S, 0, none⟩)) := fun u k => (k.box mp1 i1).cells.1
    have lc1 : ∀ u, Wk M T b w1 u → u.cell? ⟨g, 1, none⟩ = some (.slice (some ⟨rb, 0, none⟩) M.n M.n) := fun u k => (k.box mp1 i1).cells.2.1
    have lc2 : ∀ u, Wk M T b w1 u → u.cell? ⟨g, 2, none⟩ = some (.func (.func f) #[] #[]) := fun u k => (k.box mp1 i1).cells.2.2.1
    have lc3 : ∀ u, Wk M T b w1 u → u.cell? ⟨g, 3, none⟩ = some (.map (some b)) := fun u k => (k.box mp1 i1).cells.2.2.2
    have lr : ∀ u, Wk M T b w1 u → u.cell? ⟨rb, (M.nd h).1, none⟩ = some (.int .i64 (M.v (M.nd h).1 : Int)) := fun u k => (k.row mp1 row1).cell lvn
    have hmA : Aside (h ∈ M.hs) := hm
    have okA : Aside M.Ok := ok
    have st0 := wk1.drew
    generalize M.v (M.nd h).1 = v at KJ lr
    generalize (M.nd h).1 = L at lvn llo lhi KL KN lr
    generalize (M.nd h).2.1 = lo at llo KA KJ
    generalize (M.nd h).2.2 = hi at lhi KB KJ
    generalize M.n = n at lvn KN lc1 ⊢
    have L0 : ((L : Int)).toNat = L := by omega
    have L1 : (L : Int) < (n : Int) := by omega
    clear ih jc hm ok hnb s1 row1 i1 hh
    go_region_held3 (fun u => Wk M T b w1 u) (first | assumption | exact st0) (first
      | (go_at_call 53; refine (KL _ (by assumption)).mono ?_; rintro e w5 ⟨rfl, e5⟩; subst w5)
      | (go_at_call 54; refine (KA _ (by assumption)).mono ?_; rintro e w5 ⟨rfl, e5⟩; subst w5)
      | (go_at_call 55; refine (KB _ (by assumption)).mono ?_; rintro e w5 ⟨rfl, e5⟩; subst w5)
      | (go_at_call 95; refine (KN _ (by assumption) _ (by assumption)).mono ?_; rintro e w5 ⟨rfl, k5⟩)
      | (guard_target =~ Calls Tryz.prog f _ _ _; refine (KJ _).mono ?_; rintro e w5 ⟨rfl, e5⟩; subst w5))
    have hb3 := lc3 _ k5
    obtain ⟨l5, m5, q5⟩ := id k5.map
    obtain ⟨w7, hp7, ⟨l7, m7, e7, _⟩, wt7, sz7⟩ := Hm.map_put 154 Tryz.underlying154 m5 (h : Int) (T h : Int)
    have fin : Aside (Wk M T b w w7) := by
      have a : Wk M T b w w1 := ⟨⟨B1A.out.os, B1A.out.tape, B1A.out.output, B1A.out.size, fun k hk _ => B1A.out.block k hk⟩, mp1⟩
      exact (a.trans k5).trans ⟨wt7, l7, m7, q5.put okA.out hmA.out e7⟩
    clear sz7 wt7 m7 e7 q5 m5 lc0 lc1 lc2 lc3 lr KL KA KB KN KJ
    go_wp2_with fail
    go_ret
    exact ⟨rfl, fin.out⟩
theorem number_any (hnb : ¬ F0 b) (hf : ∀ (vs : Array Value) (w : World), (callFunc f vs).run Tryz.prog w = .ok (.enter f vs) w) (jc : JoinC M T f) (d : Nat) : ∀ (w : World) (h : Nat), M.n - M.lev h ≤ d → St w S F0 M → w.rowIs rb 3 M.n (fun i => .int .i64 (M.v i : Int)) → (∃ l, Hm.IsM w b l ∧ Good M T l) → M.isNode h →
    Calls Tryz.prog 95 #[wkV S rb M.n f b, .int .u32 (h : Int)] w fun e w' => e = .returned (.int .i64 (T h : Int)) ∧ Wk M T b w w' := by
  induction d with
  | zero =>
    intro w h hd s row mp hh
    exact number_step s hnb row mp hf jc hh fun u c _ _ _ hc hl => by have := Mdl.lev_le s.ok hc; omega
  | succ d ih =>
    intro w h hd s row mp hh
    exact number_step s hnb row mp hf jc hh fun u c su ru mu hc hl => ih u c (by omega) su ru mu hc
set_option maxRecDepth 100000 in
set_option maxHeartbeats 2000000 in
theorem tell_any (s : St w S F0 M) (hf : ∀ (vs : Array Value) (w : World), (callFunc f vs).run Tryz.prog w = .ok (.enter f vs) w) (jc : JoinC M T f) (hh : M.isNode h) :
    Calls Tryz.prog 80 #[.pointer (some ⟨S, 0, none⟩), .int .u32 (h : Int), .int .i64 (T 0 : Int), .int .i64 (T 1 : Int), .func (.func f) #[] #[]] w fun e w' => e = .returned (.int .i64 (T h : Int)) ∧ Below w.heap.size w w' := by
  have n8 := s.ok.le8
  have hmm := @run_makeMap Tryz.prog
  have K1 := s_order s
  have KN : Aside (∀ (u : World) (b rb : Nat), ¬ F0 b → St u S F0 M → u.rowIs rb 3 M.n (fun i => .int .i64 (M.v i : Int)) → (∃ l, Hm.IsM u b l ∧ Good M T l) → Calls Tryz.prog 95 #[wkV S rb M.n f b, .int .u32 (h : Int)] u fun e w' => e = .returned (.int .i64 (T h : Int)) ∧ Wk M T b u w') := fun u b rb hnb su ru mu => number_any hnb hf jc _ u h (Nat.le_refl _) su ru mu hh
  clear jc
  go_enter Tryz.func80, Tryz.ntmps80
  go_upto_region 2 with (first
    | (go_at_call 59; refine K1.mono ?_; clear K1; rintro e w1 ⟨P, lv, rfl, o1, b1, p1⟩; have K2 := Od.all_any o1 n8)
    | (go_at_call 60; refine K2.mono ?_; clear K2; rintro e w2 ⟨rfl, r2, b2⟩; obtain ⟨w4, hp4, ⟨l4, m4, e4, _⟩, wt4, sz4⟩ := Hm.map_put 154 Tryz.underlying154 (Hm.IsM.fresh w2) 0 (T 0 : Int); obtain ⟨w5, hp5, ⟨l5, m5, e5, _⟩, wt5, sz5⟩ := Hm.map_put 154 Tryz.underlying154 m4 1 (T 1 : Int); have sz4A : Aside (w4.heap.size = (w2.alloc (.map #[] 0)).heap.size) := sz4; have sz5A : Aside (w5.heap.size = w4.heap.size) := sz5; clear sz4 sz5))
  have q5 : Good M T l5 := by
    refine ⟨?_, ?_, fun k v hk => ?_⟩
    · rw [e5, if_neg (by decide), e4, if_pos rfl]
    · rw [e5, if_pos rfl]
    · rw [e5, e4] at hk
      by_cases c1 : k = 1
      · rw [if_pos c1] at hk
        exact ⟨1, .inl (by omega), c1, (Option.some.inj hk).symm⟩
      · rw [if_neg c1] at hk
        by_cases c0 : k = 0
        · rw [if_pos c0] at hk
          exact ⟨0, .inl (by omega), c0, (Option.some.inj hk).symm⟩
        · rw [if_neg c0] at hk
          cases hk
  have s2 := (s.below b1).below b2
  have hnb : ¬ F0 w2.heap.size := fun e => Nat.lt_irrefl _ (s2.lt _ e)
  have B2 : Below w.heap.size w w2 := Rf.below_far b1 b2
  have keep : ∀ k, k < w2.heap.size → w5.heap[k]? = w2.heap[k]? := fun k hk => by
    rw [wt5.block k (by rw [sz4A.out]; simp; omega) (by omega), wt4.block k (by simp; omega) (by omega)]
    exact Below.heap_alloc _ _ _ hk
  have z5 : w5.heap.size = w2.heap.size + 1 := by rw [sz5A.out, sz4A.out]; simp
  have s5 : St w5 S F0 M := s2.kept fun k hk => keep k (s2.lt k hk)
  have r5 := r2.of_block (keep _ r2.lt)
  have B5 : Below w.heap.size w w5 := ⟨(wt5.os.trans wt4.os).trans B2.os, (wt5.tape.trans wt4.tape).trans B2.tape, (wt5.output.trans wt4.output).trans B2.output, by have := B2.size; omega, fun k hk => (keep k (by have := B2.size; omega)).trans (B2.block k hk)⟩
  have lb : Aside (w.heap.size ≤ w2.heap.size) := B2.size
  clear wt4 wt5 hp4 hp5 e4 e5 m4 sz4A sz5A keep b1 b2 o1 p1 s2 z5 s r2 B2
  generalize w1.heap.size = rb at r5 ⊢
  generalize w2.heap.size = b at m5 hnb lb ⊢
  have i6 := IsWk.new w5 S rb M.n f b
  have B6 := nb w5 (.cells #[.pointer (some ⟨S, 0, none⟩), .slice (some ⟨rb, 0, none⟩) M.n M.n, .func (.func f) #[] #[], .map (some b)] 156)
  have s6 := s5.below B6
  have K6 := KN.out _ b rb hnb s6 (r5.of_block (B6.block rb r5.lt)) ⟨l5, m5.below B6, q5⟩
  have B6A := Rf.below_far B5 B6
  clear B6 s5 r5 m5 q5 KN B5
  unfold wkV at K6
  generalize w5.alloc (.cells #[.pointer (some ⟨S, 0, none⟩), .slice (some ⟨rb, 0, none⟩) M.n M.n, .func (.func f) #[] #[], .map (some b)] 156) = w6 at i6 s6 K6 B6A ⊢
  generalize w5.heap.size = g at i6 ⊢
  have B6A : Aside (Below w.heap.size w w6) := B6A
  obtain ⟨C0, C1, C2, C3⟩ := i6.cells
  go_wp2_with (first
    | (go_at_call 95; refine K6.mono ?_; clear K6; rintro e w7 ⟨rfl, k7⟩))
  go_ret
  exact ⟨rfl, B6A.out.trans ⟨k7.went.os, k7.went.tape, k7.went.output, k7.went.size, fun k hk => k7.went.block k (Nat.lt_of_lt_of_le hk B6A.out.size) (by have := lb.out; omega)⟩⟩

/-! ## Count, Support, One -/
theorem call_sup (vs : Array Value) (w : World) : (callFunc 81 vs).run Tryz.prog w = .ok (.enter 81 vs) w := by
  have h := Tryz.func81
  go_simp
theorem sup_jc (o : M.Ok) : JoinC M (tSup M) 81 := fun h hm u => by
  rw [sup_is o h hm]
  exact jsup_any _ _ _ (v8 o (o.lv h hm)) (tSup_lt M _) (tSup_lt M _) u
set_option maxHeartbeats 1000000 in
theorem support_op (s : St w S F0 M) (hh : M.isNode h) :
    Calls Tryz.prog 61 #[.pointer (some ⟨S, 0, none⟩), .int .u32 (h : Int)] w fun e w' => e = .returned (.tuple #[.int .u8 (tSup M h : Int), .int .i64 0]) ∧ Below w.heap.size w w' := by
  have ok := s.ok
  have K1 := s_is s h (by have := Mdl.isNode_lt ok hh; omega)
  rw [Mdl.nodeB_true hh] at K1
  have K3 := tell_any s call_sup (sup_jc ok) hh
  rw [sup_zero, sup_one] at K3
  have hle := tSup_lt M h
  generalize tSup M h = r at K3 hle ⊢
  have hw : IntKind.u8.wrap (r : Int) = (r : Int) := by rw [IntKind.wrap_u8]; omega
  clear ok hh
  go_enter Tryz.func61, Tryz.ntmps61
  go_wp2_with (first
    | (go_at_call 31; refine K1.mono ?_; clear K1; rintro e w ⟨rfl, rfl⟩)
    | (go_at_call 80; refine K3.mono ?_; clear K3; rintro e w3 ⟨rfl, b3⟩))
  go_ret2
  exact ⟨rfl, b3⟩
/-- The least assignment, and whether there is one. -/
def oneN (F : Nat → Bool) : Nat := if lst F < 256 then lst F else 0
def oneB (F : Nat → Bool) : Bool := decide (lst F < 256)
end
section
variable {w : World} {S h : Nat} {F0 : Nat → Prop} {M : Mdl}
/-! ## Refusals -/
theorem support_bad (s : St w S F0 M) (hb : h < 4294967296) (no : ¬ M.isNode h) :
    Calls Tryz.prog 61 #[.pointer (some ⟨S, 0, none⟩), .int .u32 (h : Int)] w fun e w' => e = .returned (.tuple #[.int .u8 0, .int .i64 101]) ∧ w' = w := by
  have K1 := s_is s h hb
  rw [Mdl.nodeB_false no] at K1
  clear no
  go_enter Tryz.func61, Tryz.ntmps61
  go_wp2_with (first
    | (go_at_call 31; refine K1.mono ?_; clear K1; rintro e w ⟨rfl, rfl⟩))
  go_ret2
  exact ⟨rfl, rfl⟩
end
end Go.Proofs.YtdjjelknjojnfaaGreat
