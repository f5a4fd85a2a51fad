/-
  The program's table of the variables; a function with one variable the other way round.
-/
import Derived.Test.YtmfocngdobcfcabDoorPrg
import Derived.Test.YtmfocngdobcfcabDoorQuant
namespace Go.Proofs.YtmfocngdobcfcabDoor
open Go Go.RowKit

/-- The program's table of the variables lies in block 0. -/
def Cols (w : World) : Prop := 0 < w.heap.size ∧ ∀ v k : Nat, v < 8 → k < 4 → w.cell? ⟨0, v * 4 + k, none⟩ = some (.int .u64 (word (M v) k : Int))
theorem Cols.cells {w : World} (hC : Cols w) (v : Nat) (hv : v < 8) : w.cell? ⟨0, v * 4, none⟩ = some (.int .u64 (word (M v) 0 : Int)) ∧ w.cell? ⟨0, v * 4 + 1, none⟩ = some (.int .u64 (word (M v) 1 : Int)) ∧ w.cell? ⟨0, v * 4 + 2, none⟩ = some (.int .u64 (word (M v) 2 : Int)) ∧ w.cell? ⟨0, v * 4 + 3, none⟩ = some (.int .u64 (word (M v) 3 : Int)) :=
  ⟨hC.2 v 0 hv (by decide), hC.2 v 1 hv (by decide), hC.2 v 2 hv (by decide), hC.2 v 3 hv (by decide)⟩
theorem cell_of_block {w u : World} {b j : Nat} (h : u.heap[b]? = w.heap[b]?) : u.cell? ⟨b, j, none⟩ = w.cell? ⟨b, j, none⟩ := by
  simp only [World.cell?, h]
theorem Cols.same {w u : World} (hC : Cols w) (hs : w.heap.size ≤ u.heap.size) (h : u.heap[0]? = w.heap[0]?) : Cols u :=
  ⟨Nat.lt_of_lt_of_le hC.1 hs, fun v k hv hk => (cell_of_block h).trans (hC.2 v k hv hk)⟩
theorem Cols.below {w u : World} {B : Nat} (hC : Cols w) (k : Below B w u) (hB : 0 < B) : Cols u := hC.same k.size (k.block 0 hB)
theorem Cols.kept {w u : World} (hC : Cols w) (k : Below w.heap.size w u) : Cols u := hC.below k hC.1
theorem Cols.drew {w : World} (hC : Cols w) : Cols w.drew := hC

theorem pvar_any (v : Nat) (hv : v < 8) (w : World) (hC : Cols w) :
    Calls Tryd.prog 9 #[.int .i64 (v : Int)] w fun e w' => e = .returned (tab (M v)) ∧ Below w.heap.size w w' := by
  obtain ⟨c0, c1, c2, c3⟩ := hC.cells v hv
  have hp := hC.1
  have h0 : decide (0 ≤ (v : Int) ∧ (v : Int) < 8) = true := by simp; omega
  have hv' : (v : Int) < 8 := by omega
  go_enter Tryd.func9, Tryd.ntmps9
  go_wp2_with (first
    | (go_at_call 21; refine (isVar_any _ _).mono ?_; rintro e w5 ⟨rfl, rfl⟩))
  exact bodyPost_ret (results_tab rfl rfl (IsTab.newAt (w := w) (n := w.heap.size) rfl (M v))) rfl ⟨rfl, (Below.refl w.heap.size w).alloc (Nat.le_refl _) _⟩
theorem pvar_none (v : Int) (hv : v < 0 ∨ 8 ≤ v) (w : World) :
    Calls Tryd.prog 9 #[.int .i64 v] w fun e w' => e = .returned (tab (fun _ => false)) ∧ Below w.heap.size w w' := by
  have h0 : decide (0 ≤ v ∧ v < 8) = false := by simp; omega
  go_enter Tryd.func9, Tryd.ntmps9
  have TZ := IsTab.zeroAt (w := w) (n := w.heap.size) rfl
  have B0 := (Below.refl w.heap.size w).alloc (Nat.le_refl _) (.cells #[.int .u64 0, .int .u64 0, .int .u64 0, .int .u64 0] 24)
  go_wp2_with (first
    | (go_at_call 21; refine (isVar_any _ _).mono ?_; rintro e w5 ⟨rfl, rfl⟩)
    | (go_at_call 19; refine (pconst_any _ _).mono ?_; unfold tab; rintro e w5 ⟨rfl, b5⟩; have T5 := TZ.kept b5; have B5 := below_far B0 b5; obtain ⟨z0, z1, z2, z3⟩ := T5.copy; have y0 := T5.free 0; have y1 := T5.free 1; have y2 := T5.free 2; have y3 := T5.free 3))
  exact bodyPost_ret (results_tab rfl rfl (laid_tab T5 _)) rfl ⟨rfl, B5.trans ((laid_turned _ _ _).below B5.size (Nat.le_refl _))⟩

/-- A function with variable v the other way round. -/
def turnF (F : Nat → Bool) (v : Nat) : Nat → Bool := fun x => F (x ^^^ 2 ^ v)
theorem flip_at (v x : Nat) (hv : v < 8) (hx : x < 256) : x ^^^ 2 ^ v = if M v x then x - 2 ^ v else x + 2 ^ v := by
  have h := below (n := v) (fun v => (List.range 256).all fun x => decide (x ^^^ 2 ^ v = if M v x then x - 2 ^ v else x + 2 ^ v)) 8 (by kernel_rfl) hv
  simpa using below (fun x => decide (x ^^^ 2 ^ v = if M v x then x - 2 ^ v else x + 2 ^ v)) 256 h hx
theorem flip_lt (v x : Nat) (hv : v < 8) (hx : x < 256) : x ^^^ 2 ^ v < 256 := Nat.xor_lt_two_pow (n := 8) hx (Nat.pow_lt_pow_right (by decide) hv)
theorem flip_M (v x : Nat) (hv : v < 8) (hx : x < 256) : M v (x ^^^ 2 ^ v) = !M v x := by
  have h := below (n := v) (fun v => (List.range 256).all fun x => M v (x ^^^ 2 ^ v) == !M v x) 8 (by kernel_rfl) hv
  simpa using below (fun x => M v (x ^^^ 2 ^ v) == !M v x) 256 h hx
theorem fixAt_flip (v x : Nat) (b : Bool) (hv : v < 8) (hx : x < 256) : fixAt v b x = if M v x == b then x else x ^^^ 2 ^ v := by
  rw [flip_at v x hv hx]
  unfold fixAt M
  by_cases h : x / 2 ^ v % 2 = 1 <;> cases b <;> simp [h]
theorem fix_true (F : Nat → Bool) (v x : Nat) (hv : v < 8) (hx : x < 256) : ((M v x && F x) || (!M v x && turnF F v x)) = fixF F v true x := by
  unfold fixF turnF
  rw [fixAt_flip v x true hv hx]
  cases M v x <;> simp
theorem fix_false (F : Nat → Bool) (v x : Nat) (hv : v < 8) (hx : x < 256) : ((M v x && turnF F v x) || (!M v x && F x)) = fixF F v false x := by
  unfold fixF turnF
  rw [fixAt_flip v x false hv hx]
  cases M v x <;> simp
theorem turn_or (F : Nat → Bool) (v x : Nat) (hv : v < 8) (hx : x < 256) : (F x || turnF F v x) = (fixF F v false x || fixF F v true x) := by
  unfold fixF turnF
  rw [fixAt_flip v x true hv hx, fixAt_flip v x false hv hx]
  cases M v x <;> simp [Bool.or_comm]
theorem turn_and (F : Nat → Bool) (v x : Nat) (hv : v < 8) (hx : x < 256) : (F x && turnF F v x) = (fixF F v false x && fixF F v true x) := by
  unfold fixF turnF
  rw [fixAt_flip v x true hv hx, fixAt_flip v x false hv hx]
  cases M v x <;> simp [Bool.and_comm]

theorem turn6 (F : Nat → Bool) (k j : Nat) (hk : k < 4) (h : j = if k % 2 = 1 then k - 1 else k + 1) : word (turnF F 6) k = word F j := by
  apply word_congr'
  intro i hi
  unfold turnF
  rw [flip_at 6 _ (by decide) (by omega)]
  have : M 6 (64 * k + i) = decide (k % 2 = 1) := by unfold M; congr 1; simp; omega
  rw [this]
  by_cases h1 : k % 2 = 1
  · rw [if_pos (by simpa using h1)]
    rw [if_pos h1] at h
    exact congrArg F (by omega)
  · rw [if_neg (by simpa using h1)]
    rw [if_neg h1] at h
    exact congrArg F (by omega)
theorem turn7 (F : Nat → Bool) (k j : Nat) (hk : k < 4) (h : j = if k / 2 % 2 = 1 then k - 2 else k + 2) : word (turnF F 7) k = word F j := by
  apply word_congr'
  intro i hi
  unfold turnF
  rw [flip_at 7 _ (by decide) (by omega)]
  have : M 7 (64 * k + i) = decide (k / 2 % 2 = 1) := by unfold M; congr 1; simp; omega
  rw [this]
  by_cases h1 : k / 2 % 2 = 1
  · rw [if_pos (by simpa using h1)]
    rw [if_pos h1] at h
    exact congrArg F (by omega)
  · rw [if_neg (by simpa using h1)]
    rw [if_neg h1] at h
    exact congrArg F (by omega)

theorem turned_6 (F : Nat → Bool) (w : World) :
    Calls Tryd.prog 23 #[tab F, .int .i64 6] w fun e w' => e = .returned (tab (turnF F 6)) ∧ Below w.heap.size w w' := by
  conv in #[tab F, Value.int IntKind.i64 6] => unfold tab
  have b0 : bits .xor .i64 0 1 = 1 := by kernel_rfl
  have b1 : bits .xor .i64 1 1 = 0 := by kernel_rfl
  have b2 : bits .xor .i64 2 1 = 3 := by kernel_rfl
  have b3 : bits .xor .i64 3 1 = 2 := by kernel_rfl
  go_enter Tryd.func23, Tryd.ntmps23
  go_wp2_with fail
  go_rounds 5
  exact bodyPost_ret (results_tab rfl rfl ((IsTab.wordsAt (by simp) (turnF F 6) (turn6 F 0 1 (by decide) rfl) (turn6 F 1 0 (by decide) rfl) (turn6 F 2 3 (by decide) rfl) (turn6 F 3 2 (by decide) rfl)).alloc _)) rfl
    ⟨rfl, (((Below.refl _ w).alloc (Nat.le_refl _) _).alloc (by simp) _).alloc (by simp; omega) _⟩
theorem turned_7 (F : Nat → Bool) (w : World) :
    Calls Tryd.prog 23 #[tab F, .int .i64 7] w fun e w' => e = .returned (tab (turnF F 7)) ∧ Below w.heap.size w w' := by
  conv in #[tab F, Value.int IntKind.i64 7] => unfold tab
  have b0 : bits .xor .i64 0 2 = 2 := by kernel_rfl
  have b1 : bits .xor .i64 1 2 = 3 := by kernel_rfl
  have b2 : bits .xor .i64 2 2 = 0 := by kernel_rfl
  have b3 : bits .xor .i64 3 2 = 1 := by kernel_rfl
  go_enter Tryd.func23, Tryd.ntmps23
  go_wp2_with fail
  go_rounds 5
  exact bodyPost_ret (results_tab rfl rfl ((IsTab.wordsAt (by simp) (turnF F 7) (turn7 F 0 2 (by decide) rfl) (turn7 F 1 3 (by decide) rfl) (turn7 F 2 0 (by decide) rfl) (turn7 F 3 1 (by decide) rfl)).alloc _)) rfl
    ⟨rfl, (((Below.refl _ w).alloc (Nat.le_refl _) _).alloc (by simp) _).alloc (by simp; omega) _⟩

theorem turn_low (F : Nat → Bool) (v k : Nat) (hv : v < 6) (hk : k < 4) : (word F k &&& word (M v) k) / 2 ^ (2 ^ v) ||| (word F k * 2 ^ (2 ^ v) % 18446744073709551616 &&& word (M v) k) = word (turnF F v) k := by
  apply Nat.eq_of_testBit_eq
  intro i
  rw [Nat.testBit_or, Nat.testBit_div_two_pow, Nat.testBit_and, Nat.testBit_and, show (18446744073709551616 : Nat) = 2 ^ 64 from rfl, Nat.testBit_mod_two_pow, Nat.testBit_mul_two_pow, word_bit, word_bit, word_bit, word_bit, word_bit]
  have hM := M_word v k i hv
  by_cases hi : i < 64
  · unfold turnF
    simp only [hi, decide_true, Bool.true_and, hM]
    rw [flip_at v (64 * k + i) (by omega) (by omega), hM]
    by_cases hb : M v i = true
    · have hb' : (64 * k + i) / 2 ^ v % 2 = 1 := by rw [← hM] at hb; simpa [M] using hb
      have hn : M v (64 * k + (i + 2 ^ v)) = false ∧ 2 ^ v ≤ i ∧ i - 2 ^ v < 64 ∧ 64 * k + (i - 2 ^ v) = 64 * k + i - 2 ^ v := by
        have h : v = 0 ∨ v = 1 ∨ v = 2 ∨ v = 3 ∨ v = 4 ∨ v = 5 := by omega
        unfold M
        rcases h with rfl | rfl | rfl | rfl | rfl | rfl <;> (simp at hb' ⊢; omega)
      rw [hn.1, hb]
      simp [hn.2.1, hn.2.2.1, hn.2.2.2]
    · have hb0 : M v i = false := by simpa using hb
      have hb' : ¬ (64 * k + i) / 2 ^ v % 2 = 1 := by rw [← hM] at hb0; simpa [M] using hb0
      have hn : M v (64 * k + (i + 2 ^ v)) = true ∧ i + 2 ^ v < 64 := by
        have h : v = 0 ∨ v = 1 ∨ v = 2 ∨ v = 3 ∨ v = 4 ∨ v = 5 := by omega
        unfold M
        rcases h with rfl | rfl | rfl | rfl | rfl | rfl <;> (simp at hb' ⊢; omega)
      rw [hn.1, hb0]
      simp [hn.2, Nat.add_assoc]
  · have : ¬ i + 2 ^ v < 64 := Nat.not_lt.2 (Nat.le_trans (Nat.not_lt.1 hi) (Nat.le_add_right _ _))
    simp [hi, this]
theorem turn_int (F : Nat → Bool) (v k S : Nat) (hv : v < 6) (hk : k < 4) (hS : 2 ^ v = S) : bits .or .u64 (bits .and .u64 (word F k : Int) (word (M v) k : Int) / 2 ^ S) (bits .and .u64 (IntKind.u64.wrap ((word F k : Int) * 2 ^ S)) (word (M v) k : Int)) = (word (turnF F v) k : Int) := by
  subst hS
  have h1 : IntKind.u64.wrap ((word F k : Int) * 2 ^ (2 ^ v)) = ((word F k * 2 ^ (2 ^ v) % 18446744073709551616 : Nat) : Int) := by
    have h2 : (word F k : Int) * 2 ^ (2 ^ v) = ((word F k * 2 ^ (2 ^ v) : Nat) : Int) := by push_cast; rfl
    rw [IntKind.wrap_u64, h2]
    exact (Int.natCast_emod _ 18446744073709551616).symm
  have hlt : word F k &&& word (M v) k < 18446744073709551616 := Nat.lt_of_le_of_lt Nat.and_le_left (word_lt F k)
  have h3 : (((word F k &&& word (M v) k : Nat) : Int) / 2 ^ (2 ^ v)) = (((word F k &&& word (M v) k) / 2 ^ (2 ^ v) : Nat) : Int) := by push_cast; rfl
  rw [h1, u64_and_nat _ _ (word_lt _ k) (word_lt _ k), u64_and_nat _ _ (Nat.mod_lt _ (by decide)) (word_lt _ k), h3, u64_or_nat _ _ (Nat.lt_of_le_of_lt (Nat.div_le_self _ _) hlt) (Nat.lt_of_le_of_lt Nat.and_le_right (word_lt _ k)), turn_low F v k hv hk]
end Go.Proofs.YtmfocngdobcfcabDoor
