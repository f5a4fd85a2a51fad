/-
  How many nodes there are at the lowest levels, without a program; functions that hang on some variables alone.
-/
import Derived.Test.YtdmfbfbebcneeaaMdl
import Derived.Test.YtdmfbfbebcneeaaRfTab
namespace Go.Proofs.Ytdmfbfbebcneeaa
open Rf (fixAt fixF)

theorem nodup_le {α : Type} [DecidableEq α] : ∀ (l m : List α), l.Nodup → (∀ x ∈ l, x ∈ m) → l.length ≤ m.length
  | [], _, _, _ => Nat.zero_le _
  | x :: l, m, hn, h => by
    have hx := h x (by simp)
    rw [List.nodup_cons] at hn
    have := nodup_le l (m.erase x) hn.2 fun y hy => (List.mem_erase_of_ne (fun e : y = x => hn.1 (e ▸ hy))).2 (h y (by simp [hy]))
    rw [List.length_erase_of_mem hx] at this
    have := List.length_pos_of_mem hx
    simp
    omega
theorem nodup_map_on {α β : Type} (f : α → β) : ∀ (l : List α), l.Nodup → (∀ x ∈ l, ∀ y ∈ l, f x = f y → x = y) → (l.map f).Nodup
  | [], _, _ => by simp
  | x :: l, hn, h => by
    rw [List.nodup_cons] at hn
    rw [List.map_cons, List.nodup_cons]
    refine ⟨fun hm => ?_, nodup_map_on f l hn.2 fun a ha b hb e => h a (by simp [ha]) b (by simp [hb]) e⟩
    obtain ⟨y, hy, e⟩ := List.mem_map.1 hm
    have := h y (by simp [hy]) x (by simp) e
    exact hn.1 (this ▸ hy)

namespace Mdl
variable {M M' : Mdl}
theorem Ok.nodup (o : M.Ok) : M.hs.Nodup := o.sorted.imp fun h => Nat.ne_of_lt h
/-- How many nodes lie above the two lowest levels. -/
def up (M : Mdl) : Nat := (M.hs.filter fun h => decide ((M.nd h).1 + 2 < M.n)).length
theorem at_lowest (o : M.Ok) : (M.hs.filter fun h => decide ((M.nd h).1 + 1 = M.n)).length ≤ 2 := by
  have hn := nodup_map_on M.nd _ (o.nodup.filter fun h => decide ((M.nd h).1 + 1 = M.n)) fun x hx y hy e => o.one x (List.mem_filter.1 hx).1 y (List.mem_filter.1 hy).1 e
  have := nodup_le _ [(M.n - 1, 0, 1), (M.n - 1, 1, 0)] hn fun d hd => by
    obtain ⟨h, hh, rfl⟩ := List.mem_map.1 hd
    obtain ⟨hm, hl⟩ := List.mem_filter.1 hh
    have hl := of_decide_eq_true hl
    have c : ∀ z, M.isNode z → (M.nd h).1 < M.lev z → z < 2 := fun z hz hlz => by
      rcases hz with e | e
      · exact e
      · have := o.lv z e; rw [lev_in o e] at hlz; omega
    have a := c _ (o.lo h hm).1 (o.lo h hm).2
    have b := c _ (o.hi h hm).1 (o.hi h hm).2
    have ne := o.ne h hm
    have l1 : (M.nd h).1 = M.n - 1 := by omega
    by_cases a0 : (M.nd h).2.1 = 0
    · have b1 : (M.nd h).2.2 = 1 := by omega
      have : M.nd h = (M.n - 1, 0, 1) := Prod.ext l1 (Prod.ext a0 b1)
      simp [this]
    · have a1 : (M.nd h).2.1 = 1 := by omega
      have b0 : (M.nd h).2.2 = 0 := by omega
      have : M.nd h = (M.n - 1, 1, 0) := Prod.ext l1 (Prod.ext a1 b0)
      simp [this]
  simpa using this
theorem at_second (o : M.Ok) : (M.hs.filter fun h => decide ((M.nd h).1 + 2 = M.n)).length ≤ 16 := by
  have hn := nodup_map_on M.nd _ (o.nodup.filter fun h => decide ((M.nd h).1 + 2 = M.n)) fun x hx y hy e => o.one x (List.mem_filter.1 hx).1 y (List.mem_filter.1 hy).1 e
  have hk : ([0, 1] ++ M.hs.filter fun h => decide ((M.nd h).1 + 1 = M.n)).length ≤ 4 := by
    have := at_lowest o
    rw [List.length_append]
    simp
    omega
  obtain ⟨K, hK⟩ : ∃ K, [0, 1] ++ M.hs.filter (fun h => decide ((M.nd h).1 + 1 = M.n)) = K := ⟨_, rfl⟩
  rw [hK] at hk
  have := nodup_le _ (K.flatMap fun a => K.map fun b => (M.n - 2, a, b)) hn fun d hd => by
    obtain ⟨h, hh, rfl⟩ := List.mem_map.1 hd
    obtain ⟨hm, hl⟩ := List.mem_filter.1 hh
    have hl := of_decide_eq_true hl
    have c : ∀ z, M.isNode z → (M.nd h).1 < M.lev z → z ∈ K := fun z hz hlz => by
      rw [← hK]
      rcases hz with e | e
      · have : z = 0 ∨ z = 1 := by omega
        rcases this with rfl | rfl <;> simp
      · have := o.lv z e
        rw [lev_in o e] at hlz
        refine List.mem_append.2 (.inr (List.mem_filter.2 ⟨e, ?_⟩))
        rw [decide_eq_true_eq]
        omega
    have l1 : (M.nd h).1 = M.n - 2 := by omega
    refine List.mem_flatMap.2 ⟨_, c _ (o.lo h hm).1 (o.lo h hm).2, List.mem_map.2 ⟨_, c _ (o.hi h hm).1 (o.hi h hm).2, ?_⟩⟩
    exact Prod.ext l1.symm rfl
  have hlen : (K.flatMap fun a => K.map fun b => (M.n - 2, a, b)).length = K.length * K.length := by
    rw [List.length_flatMap]
    simp [List.map_const', List.sum_replicate_nat]
  rw [hlen] at this
  have h16 : K.length * K.length ≤ 4 * 4 := Nat.mul_le_mul hk hk
  simp at this
  omega
theorem len_le (o : M.Ok) : M.hs.length ≤ M.up + 18 := by
  have h1 := at_lowest o
  have h2 := at_second o
  have key : ∀ l : List Nat, (∀ h ∈ l, (M.nd h).1 < M.n) → l.length ≤ (l.filter fun h => decide ((M.nd h).1 + 2 < M.n)).length + (l.filter fun h => decide ((M.nd h).1 + 2 = M.n)).length + (l.filter fun h => decide ((M.nd h).1 + 1 = M.n)).length := by
    intro l
    induction l with
    | nil => simp
    | cons x l ih =>
      intro hl
      have hx := hl x (by simp)
      have := ih fun h hh => hl h (by simp [hh])
      simp only [List.filter_cons, List.length_cons]
      by_cases c1 : (M.nd x).1 + 2 < M.n
      · rw [if_pos (decide_eq_true c1), if_neg (by simp; omega), if_neg (by simp; omega), List.length_cons]
        omega
      · by_cases c2 : (M.nd x).1 + 2 = M.n
        · rw [if_neg (by simp; omega), if_pos (decide_eq_true c2), if_neg (by simp; omega), List.length_cons]
          omega
        · have c3 : (M.nd x).1 + 1 = M.n := by omega
          rw [if_neg (by simp; omega), if_neg (by simp; omega), if_pos (decide_eq_true c3), List.length_cons]
          omega
  have := key M.hs o.lv
  unfold up
  omega
/-- A node more: it counts if it lies high. -/
theorem Adds.up {x : Nat} {d : Nd} (a : M.Adds x d M') (o' : M'.Ok) : M'.up ≤ M.up + if d.1 + 2 < M.n then 1 else 0 := by
  unfold Mdl.up
  have hn : (M'.hs.filter fun h => decide ((M'.nd h).1 + 2 < M'.n)).Nodup := o'.nodup.filter _
  by_cases c : d.1 + 2 < M.n
  · rw [if_pos c]
    have := nodup_le _ (x :: M.hs.filter fun h => decide ((M.nd h).1 + 2 < M.n)) hn fun h hh => by
      obtain ⟨hm, hl⟩ := List.mem_filter.1 hh
      have hl := of_decide_eq_true hl
      rcases (a.mem h).1 hm with e | e
      · simp [e]
      · rw [(a.grew.keep h e).2, a.n] at hl
        exact List.mem_cons.2 (.inr (List.mem_filter.2 ⟨e, by rw [decide_eq_true_eq]; exact hl⟩))
    simpa using this
  · rw [if_neg c]
    refine nodup_le _ _ hn fun h hh => ?_
    obtain ⟨hm, hl⟩ := List.mem_filter.1 hh
    have hl := of_decide_eq_true hl
    rcases (a.mem h).1 hm with e | e
    · rw [e, a.at.2, a.n] at hl
      exact absurd hl c
    · rw [(a.grew.keep h e).2, a.n] at hl
      exact List.mem_filter.2 ⟨e, by rw [decide_eq_true_eq]; exact hl⟩
end Mdl

/-! ## Tables -/
def Eqt (F G : Nat → Bool) : Prop := ∀ x, x < 256 → F x = G x
theorem fixAt_all : ((List.range 256).all fun x => (List.range 8).all fun v => [true, false].all fun b => decide (fixAt v b x < 256) && (List.range 8).all fun j => (fixAt v b x).testBit j == (if j = v then b else x.testBit j)) = true := by kernel_rfl
theorem fixAt_bits {x v : Nat} (hx : x < 256) (hv : v < 8) (b : Bool) : fixAt v b x < 256 ∧ (fixAt v b x).testBit = Mdl.setA x.testBit v b := by
  have h1 := List.all_eq_true.1 fixAt_all x (List.mem_range.2 hx)
  have h2 := List.all_eq_true.1 h1 v (List.mem_range.2 hv)
  have h3 := List.all_eq_true.1 h2 b (by cases b <;> simp)
  rw [Bool.and_eq_true, decide_eq_true_eq] at h3
  refine ⟨h3.1, funext fun j => ?_⟩
  unfold Mdl.setA
  by_cases hj : j < 8
  · have := List.all_eq_true.1 h3.2 j (List.mem_range.2 hj)
    simpa using this
  · rw [if_neg (by omega), Nat.testBit_lt_two_pow (Nat.lt_of_lt_of_le h3.1 (Nat.pow_le_pow_right (n := 2) (by omega) (show 8 ≤ j by omega))), Nat.testBit_lt_two_pow (Nat.lt_of_lt_of_le hx (Nat.pow_le_pow_right (n := 2) (by omega) (show 8 ≤ j by omega)))]
theorem fixAt_same {x v : Nat} (hx : x < 256) (hv : v < 8) : fixAt v (x.testBit v) x = x := by
  apply Nat.eq_of_testBit_eq
  intro j
  rw [(fixAt_bits hx hv _).2]
  unfold Mdl.setA
  by_cases e : j = v
  · rw [if_pos e, e]
  · rw [if_neg e]
/-- It hangs on the variables of the levels from k on alone. -/
def Dep (M : Mdl) (k : Nat) (F : Nat → Bool) : Prop := ∀ x y, x < 256 → y < 256 → (∀ j, k ≤ j → j < M.n → x.testBit (M.v j) = y.testBit (M.v j)) → F x = F y
theorem Dep.fix {M : Mdl} (o : M.Ok) {k : Nat} {F : Nat → Bool} (h : Dep M k F) (hk : k < M.n) (b : Bool) : Dep M (k + 1) (fixF F (M.v k) b) := fun x y hx hy e => by
  have hv : M.v k < 8 := by have := o.vlt k hk; have := o.le8; omega
  have bx := fixAt_bits hx hv b
  have by' := fixAt_bits hy hv b
  refine h _ _ bx.1 by'.1 fun j hj hn => ?_
  rw [bx.2, by'.2]
  unfold Mdl.setA
  by_cases c : j = k
  · rw [c, if_pos rfl, if_pos rfl]
  · have : M.v j ≠ M.v k := fun q => c (o.vinj j k hn hk q)
    rw [if_neg this, if_neg this]
    exact e j (by omega) hn
theorem Dep.const {M : Mdl} {F : Nat → Bool} (h : Dep M M.n F) : Eqt F (fun _ => F 0) := fun x hx => h x 0 hx (by omega) fun j h1 h2 => by omega
theorem Dep.all {M : Mdl} (o : M.Ok) (h8 : M.n = 8) (F : Nat → Bool) : Dep M 0 F := fun x y hx hy e => by
  -- each of the eight variables lies at some level
  have onto : ∀ i, i < 8 → ∃ j, j < 8 ∧ M.v j = i := by
    intro i hi
    have hn : ((List.range 8).map M.v).Nodup := nodup_map_on M.v _ List.nodup_range fun a ha b hb q => o.vinj a b (by rw [h8]; exact List.mem_range.1 ha) (by rw [h8]; exact List.mem_range.1 hb) q
    by_cases c : i ∈ (List.range 8).map M.v
    · obtain ⟨j, hj, e⟩ := List.mem_map.1 c
      exact ⟨j, List.mem_range.1 hj, e⟩
    · exfalso
      have := nodup_le (i :: (List.range 8).map M.v) (List.range 8) (List.nodup_cons.2 ⟨c, hn⟩) fun z hz => by
        rcases List.mem_cons.1 hz with rfl | hz
        · exact List.mem_range.2 hi
        · obtain ⟨j, hj, rfl⟩ := List.mem_map.1 hz
          have := o.vlt j (by rw [h8]; exact List.mem_range.1 hj)
          exact List.mem_range.2 (by omega)
      simp at this
  have : x = y := by
    apply Nat.eq_of_testBit_eq
    intro i
    by_cases hi : i < 8
    · obtain ⟨j, hj, rfl⟩ := onto i hi
      exact e j (Nat.zero_le _) (by omega)
    · rw [Nat.testBit_lt_two_pow (Nat.lt_of_lt_of_le hx (Nat.pow_le_pow_right (n := 2) (by omega) (show 8 ≤ i by omega))), Nat.testBit_lt_two_pow (Nat.lt_of_lt_of_le hy (Nat.pow_le_pow_right (n := 2) (by omega) (show 8 ≤ i by omega)))]
  rw [this]
/-- The function of a node of two parts. -/
theorem Mdl.join {M M' : Mdl} {x : Nat} {l a b : Nat} {F : Nat → Bool} (ad : M.Adds x (l, a, b) M') (o : M.Ok) (o' : M'.Ok) (f : M.Fits (l, a, b)) (h0 : Eqt (M.tbl a) (fixF F (M.v l) false)) (h1 : Eqt (M.tbl b) (fixF F (M.v l) true)) : Eqt (M'.tbl x) F := fun y hy => by
  have hv : M.v l < 8 := by have := o.vlt l f.lv; have := o.le8; omega
  unfold Mdl.tbl
  rw [ad.val o o' f]
  have e0 := h0 y hy
  have e1 := h1 y hy
  unfold Mdl.tbl fixF at e0 e1
  have es := fixAt_same hy hv
  show (if y.testBit (M.v l) = true then M.val b y.testBit else M.val a y.testBit) = F y
  cases hb : y.testBit (M.v l) with
  | true => rw [hb] at es; rw [if_pos rfl, e1, es]
  | false => rw [hb] at es; rw [if_neg (by simp), e0, es]
theorem Mdl.joined {M : Mdl} {x : Nat} {F : Nat → Bool} (o : M.Ok) (hx : x ∈ M.hs) (h0 : Eqt (M.tbl (M.nd x).2.1) (fixF F (M.v (M.nd x).1) false)) (h1 : Eqt (M.tbl (M.nd x).2.2) (fixF F (M.v (M.nd x).1) true)) : Eqt (M.tbl x) F := fun y hy => by
  have hv : M.v (M.nd x).1 < 8 := by have := o.vlt _ (o.lv x hx); have := o.le8; omega
  unfold Mdl.tbl
  rw [Mdl.val_in o hx]
  have e0 := h0 y hy
  have e1 := h1 y hy
  unfold Mdl.tbl fixF at e0 e1
  have es := fixAt_same hy hv
  cases hb : y.testBit (M.v (M.nd x).1) with
  | true => rw [hb] at es; rw [if_pos rfl, e1, es]
  | false => rw [hb] at es; rw [if_neg (by simp), e0, es]
/-- Where both parts are one, that is the function. -/
theorem fix_same {F : Nat → Bool} {v : Nat} (hv : v < 8) (h : Eqt (fixF F v false) (fixF F v true)) : Eqt (fixF F v false) F := fun x hx => by
  have es := fixAt_same hx hv
  cases hb : x.testBit v with
  | false => rw [hb] at es; show F (fixAt v false x) = F x; rw [es]
  | true => rw [hb] at es; rw [h x hx]; show F (fixAt v true x) = F x; rw [es]
end Go.Proofs.Ytdmfbfbebcneeaa
