/-
  Package build: From.
-/
import Derived.Test.YtfaccdnnjkkcfaaGreatDoorBdN
import Derived.Test.YtfaccdnnjkkcfaaGreatDoorCtP
namespace Go.Proofs.YtfaccdnnjkkcfaaGreatDoor
open Go Go.RowKit
open Rf (fixAt fixF tab word same IsTab Cols supUpto)

/-! ## Variables that aren't there -/
theorem sup_big {F : Nat → Bool} {n : Nat} : 2 ^ n ≤ supUpto F 8 ↔ ∃ v, n ≤ v ∧ v < 8 ∧ hangs F v = true := by
  constructor
  · intro h
    by_cases c : ∃ v, n ≤ v ∧ v < 8 ∧ hangs F v = true
    · exact c
    · have : supUpto F 8 < 2 ^ n := Nat.lt_pow_two_of_testBit _ fun i hi => by
        rw [sup_bit]
        by_cases hi8 : i < 8
        · cases q : hangs F i with
          | true => exact absurd ⟨i, hi, hi8, q⟩ c
          | false => simp
        · simp [hi8]
      omega
  · rintro ⟨v, h1, h2, h3⟩
    have hb : (supUpto F 8).testBit v = true := by rw [sup_bit, h3]; simp [h2]
    exact Nat.le_trans (Nat.pow_le_pow_right (by omega) h1) (Nat.ge_two_pow_of_testBit hb)
theorem dep_not {M : Mdl} (o : M.Ok) {F : Nat → Bool} (d : Dep M 0 F) {v : Nat} (hn : M.n ≤ v) (h8 : v < 8) : hangs F v = false := hangs_not fun b x hx => by
  obtain ⟨h1, h2⟩ := fixAt_bits hx h8 b
  refine d _ _ h1 hx fun j _ hj => ?_
  rw [h2]
  exact Mdl.setA_other _ _ fun e => by have := o.vlt j hj; omega
theorem dep_sup {M : Mdl} (o : M.Ok) {F : Nat → Bool} (d : Dep M 0 F) : ¬ 2 ^ M.n ≤ supUpto F 8 := fun h => by
  obtain ⟨v, h1, h2, h3⟩ := sup_big.1 h
  rw [dep_not o d h1 h2] at h3
  cases h3
theorem fix_congr {F G : Nat → Bool} {v : Nat} (hv : v < 8) (e : Eqt F G) (b : Bool) : Eqt (fixF F v b) (fixF G v b) := fun _ hx => e _ (fixAt_bits hx hv b).1
theorem trim_not {F : Nat → Bool} {n : Nat} (h : ∀ v, n ≤ v → v < 8 → hangs F v = false) : ∀ j, n + j ≤ 8 → Eqt (trimF F n j) F
  | 0, _ => Eqt.refl F
  | j + 1, hj => by
    have ih := trim_not h j (by omega)
    have hv : n + j < 8 := by omega
    have e : Eqt (fixF F (n + j) false) (fixF F (n + j) true) := by
      have := h (n + j) (by omega) hv
      by_cases c : Eqt (fixF F (n + j) false) (fixF F (n + j) true)
      · exact c
      · rw [hangs_iff.2 c] at this; cases this
    exact (fix_congr hv ih false).trans (fix_same hv e)
/-- One that is trimmed to another hangs on a variable that isn't there. -/
theorem trim_sup {F : Nat → Bool} {n : Nat} (hn : n ≤ 8) (h : ¬ Eqt (trimF F n (8 - n)) F) : 2 ^ n ≤ supUpto F 8 := by
  refine sup_big.2 ?_
  by_cases c : ∃ v, n ≤ v ∧ v < 8 ∧ hangs F v = true
  · exact c
  · refine absurd (trim_not (fun v h1 h2 => ?_) (8 - n) (by omega)) h
    cases q : hangs F v with
    | true => exact absurd ⟨v, h1, h2, q⟩ c
    | false => rfl

/-! ## From -/
section
variable {w : World} {S : Nat} {F0 : Nat → Prop} {M : Mdl}
set_option maxHeartbeats 1000000 in
theorem from_bad (h : St w S F0 M) (F : Nat → Bool) (hC : Cols w) (big : 2 ^ M.n ≤ supUpto F 8) :
    Calls Tryz.prog 12 #[.pointer (some ⟨S, 0, none⟩), tab F] w fun e w' => e = .returned (.tuple #[.int .u32 0, .int .i64 40]) ∧ Below w.heap.size w w' := by
  conv in #[Value.pointer (some ⟨S, 0, none⟩), tab F] => unfold tab
  have B0 := nb w (.cells #[.int .u64 (word F 0 : Int), .int .u64 (word F 1 : Int), .int .u64 (word F 2 : Int), .int .u64 (word F 3 : Int)] 24)
  have TF := IsTab.new w F
  go_enter Tryz.func12, Tryz.ntmps12
  go_upto_region 1 with fail
  generalize w.alloc (.cells #[.int .u64 (word F 0 : Int), .int .u64 (word F 1 : Int), .int .u64 (word F 2 : Int), .int .u64 (word F 3 : Int)] 24) = w4 at B0 TF ⊢
  have K1 := Rf.psupport_any F w4 (hC.kept B0)
  unfold tab at K1
  have K2 : Aside (∀ u, Below w.heap.size w u → Calls Tryz.prog 42 #[.pointer (some ⟨S, 0, none⟩), .int .u8 (supUpto F 8 : Int)] u fun e w' => e = .returned (.bool true) ∧ w' = u) := fun u k => by
    have := beyond_any (h.below k) (supUpto F 8)
    rwa [decide_eq_true big] at this
  generalize supUpto F 8 = m at K1 K2
  clear big
  obtain ⟨t0, t1, t2, t3⟩ := TF.copy
  go_wp2_with (first
    | (go_at_call 43; refine K1.mono ?_; clear K1; rintro e w5 ⟨rfl, b5⟩; have b5' := Rf.below_far B0 b5; have K3 := K2.out w5 b5')
    | (go_at_call 42; refine K3.mono ?_; clear K3; rintro e w6 ⟨rfl, e6⟩; subst w6))
  go_ret2
  exact ⟨rfl, b5'⟩
set_option maxHeartbeats 2000000 in
theorem from_op (h : St w S F0 M) {F : Nat → Bool} (hC : Cols w) (hF : ¬ F0 0) (dep : Dep M 0 F) (room : Much M 0 F) :
    Calls Tryz.prog 12 #[.pointer (some ⟨S, 0, none⟩), tab F] w (Made1 S F0 w M 0 F) := by
  have small := dep_sup h.ok dep
  conv in #[Value.pointer (some ⟨S, 0, none⟩), tab F] => unfold tab
  have B0 := nb w (.cells #[.int .u64 (word F 0 : Int), .int .u64 (word F 1 : Int), .int .u64 (word F 2 : Int), .int .u64 (word F 3 : Int)] 24)
  have TF := IsTab.new w F
  go_enter Tryz.func12, Tryz.ntmps12
  go_upto_region 1 with fail
  generalize w.alloc (.cells #[.int .u64 (word F 0 : Int), .int .u64 (word F 1 : Int), .int .u64 (word F 2 : Int), .int .u64 (word F 3 : Int)] 24) = w4 at B0 TF ⊢
  have K1 := Rf.psupport_any F w4 (hC.kept B0)
  unfold tab at K1
  have K2 : Aside (∀ u, Below w.heap.size w u → Calls Tryz.prog 42 #[.pointer (some ⟨S, 0, none⟩), .int .u8 (supUpto F 8 : Int)] u fun e w' => e = .returned (.bool false) ∧ w' = u) := fun u k => by
    have := beyond_any (h.below k) (supUpto F 8)
    rwa [decide_eq_false small] at this
  generalize supUpto F 8 = m at K1 K2
  clear small
  obtain ⟨t0, t1, t2, t3⟩ := TF.copy
  generalize hb : w.heap.size = b at TF t0 t1 t2 t3 ⊢
  clear hb
  go_upto_region 3 with (first
    | (go_at_call 43; refine K1.mono ?_; clear K1; rintro e w5 ⟨rfl, b5⟩; have b5' := Rf.below_far B0 b5; have K3 := K2.out w5 b5')
    | (go_at_call 42; refine K3.mono ?_; clear K3; rintro e w6 ⟨rfl, e6⟩; subst w6))
  have TF5 := kept TF b5
  have h5 := h.below b5'
  have K4 := start_any h5.drew
  have C5 : Aside (Cols w5) := hC.kept b5'
  have B5 : Aside (Below w.heap.size w w5) := b5'
  clear t0 t1 t2 t3 TF B0 b5 b5' K2
  go_region_held3 (fun u => u.cell? ⟨b, 0, none⟩ = some (.int .u64 (word F 0 : Int)) ∧ u.cell? ⟨b, 1, none⟩ = some (.int .u64 (word F 1 : Int)) ∧ u.cell? ⟨b, 2, none⟩ = some (.int .u64 (word F 2 : Int)) ∧ u.cell? ⟨b, 3, none⟩ = some (.int .u64 (word F 3 : Int))) (first | assumption | exact TF5.drew.copy) (first
    | (go_at_call 44; refine K4.mono ?_; clear K4; rintro e w6 ⟨g, rfl, r6, b6, g6⟩; have T6 := kept TF5.drew b6; have C6 := T6.copy; have h6 := h5.drew.below b6; have K5 : Calls Tryz.prog 45 #[wkv S g M.n, tab F, .int .i64 0] w6 _ := node_any (M.n - 0) (k := 0) h6 (Nat.le_refl _) (Nat.zero_le _) dep r6 (C5.out.drew.kept b6) hF room; unfold tab at K5)
    | (go_at_call 45; refine K5.mono ?_; clear K5; rintro e w7 ⟨x, M7, F7, rfl, g7, s7, b7⟩; have C7 := IsTab.copy (show IsTab w7 b F from (b7.block b T6.lt (h6.row T6 (by decide))).trans T6)))
  go_wp2_with fail
  go_ret2
  exact ⟨x, M7, F7, rfl, g7, s7, (Wf.of_below B5.out F0).trans ((Wf.of_below b6 F0).trans b7).undrew⟩
end
end Go.Proofs.YtfaccdnnjkkcfaaGreatDoor
