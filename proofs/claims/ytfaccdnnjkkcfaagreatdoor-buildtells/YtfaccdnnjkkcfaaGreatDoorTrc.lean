/-
  What the functions of the program's tables return: constants, connectives, values.
  The program's table of the variables; a function with one variable the other way round.
  A function with one variable turned, fixed, put in: what the program's own calls return.
  The variables that a function hangs on: what the program's own call returns.
-/
import Derived.Test.YtfaccdnnjkkcfaaGreatDoorBaseE
import Derived.Handy
namespace Go.Proofs.YtfaccdnnjkkcfaaGreatDoor.Rf
open Go Go.RowKit

theorem isVar_any (v : Int) (w : World) :
    Calls Tryz.prog 83 #[.int .i64 v] w fun e w' => e = .returned (.bool (decide (0 ≤ v ∧ v < 8))) ∧ w' = w := by
  by_cases h0 : 0 ≤ v
  · by_cases h8 : v < 8
    · have h1 : decide (v ≥ 0) = true := by simpa using h0
      have h2 : decide (v < 8) = true := by simpa using h8
      rw [show decide (0 ≤ v ∧ v < 8) = true by simp [h0, h8]]
      go_enter Tryz.func83, Tryz.ntmps83
      go_wp2
      go_ret
      exact ⟨rfl, rfl⟩
    · have h2 : decide (v < 8) = false := by simpa using h8
      rw [show decide (0 ≤ v ∧ v < 8) = false by simp [h8]]
      go_enter Tryz.func83, Tryz.ntmps83
      go_wp2
      go_ret
      exact ⟨rfl, rfl⟩
  · have h1 : decide (v ≥ 0) = false := by simpa using h0
    rw [show decide (0 ≤ v ∧ v < 8) = false by simp [h0]]
    go_enter Tryz.func83, Tryz.ntmps83
    go_wp2
    go_ret
    exact ⟨rfl, rfl⟩

theorem full_word (k : Nat) : word (fun _ => true) k = 18446744073709551615 := by
  have := word_not (fun _ => false) k
  rw [word_zero] at this
  exact this.symm
theorem full_int (k : Nat) : ((word (fun _ => true) k : Nat) : Int) = 18446744073709551615 := by rw [full_word]; rfl
theorem zero_int (k : Nat) : ((word (fun _ => false) k : Nat) : Int) = 0 := by rw [word_zero]; rfl

theorem pconst_any (b : Bool) (w : World) :
    Calls Tryz.prog 72 #[.bool b] w fun e w' => e = .returned (tab (fun _ => b)) ∧ Below w.heap.size w w' := by
  have hT := IsTab.newAt (w := w) (n := w.heap.size) rfl (fun _ => b)
  cases b with
  | true =>
    simp only [full_int] at hT
    go_enter Tryz.func72, Tryz.ntmps72
    go_wp2_with fail
    exact bodyPost_ret (results_tab rfl rfl hT) rfl ⟨rfl, (Below.refl w.heap.size w).alloc (Nat.le_refl _) _⟩
  | false =>
    simp only [zero_int] at hT
    go_enter Tryz.func72, Tryz.ntmps72
    go_wp2_with fail
    exact bodyPost_ret (results_tab rfl rfl hT) rfl ⟨rfl, (Below.refl w.heap.size w).alloc (Nat.le_refl _) _⟩

theorem ite_words (F G H : Nat → Bool) (k : Nat) : bits .or .u64 (bits .and .u64 (word F k : Int) (word G k : Int)) (bits .and .u64 (bits .xor .u64 (if IntKind.u64.signed = true then -1 else IntKind.u64.max) (word F k : Int)) (word H k : Int)) = (word (fun x => (F x && G x) || (!F x && H x)) k : Int) := by
  rw [show (if IntKind.u64.signed = true then (-1 : Int) else IntKind.u64.max) = IntKind.u64.max from rfl, and_words, not_words, and_words, or_words]

theorem pite_any (F G H : Nat → Bool) (w : World) :
    Calls Tryz.prog 76 #[tab F, tab G, tab H] w fun e w' => e = .returned (tab (fun x => (F x && G x) || (!F x && H x))) ∧ Below w.heap.size w w' := by
  have R : Hid (tab (fun x => (F x && G x) || (!F x && H x)) = tab (mix 4 F fun x => (F x && G x) || (!F x && H x))) := (tab_ext fun x hx => mix_all F (fun x => (F x && G x) || (!F x && H x)) x hx).symm
  rw [R.out]
  clear R
  conv in #[tab F, tab G, tab H] => unfold tab
  go_enter Tryz.func76, Tryz.ntmps76
  go_wp2_with fail
  go_loopg [8] 4 (fun g si wr => ∃ k : Nat, k + g = 4 ∧ si = .int .i64 (k : Int) ∧ IsTab wr w.heap.size (mix k F fun x => (F x && G x) || (!F x && H x)) ∧ IsTab wr (w.heap.size + 1) G ∧ IsTab wr (w.heap.size + 2) H ∧ IsTab wr (w.heap.size + 3) (fun _ => false) ∧ Below w.heap.size w wr)
  case atStart =>
    exact ⟨0, by omega, rfl, ((((IsTab.new w F).alloc _).alloc _).alloc _).ext fun y _ => mix_none F _ y, ((IsTab.newAt (by simp) G).alloc _).alloc _, (IsTab.newAt (by simp) H).alloc _, IsTab.zeroAt (by simp), ((((Below.refl _ w).alloc (Nat.le_refl _) _).alloc (by simp) _).alloc (by simp; omega) _).alloc (by simp; omega) _⟩
  case round =>
    obtain ⟨k, hk, rfl, hT, hU, hV, hZ, hB⟩ := hrel
    have hK : Aside (k + gk = 4) := hk
    clear hk
    by_cases hk9 : k < 4
    · have hk9' : (k : Int) < 4 := by omega
      have c0 := hT.cell hk9
      rw [mix_now] at c0
      have d0 := hU.cell hk9
      have e0 := hV.cell hk9
      have f0 := hT.free k
      go_wp2_with fail
      go_region
      rw [ite_words F G H k]
      go_wp2_with fail
      go_roundg (gk - 1)
      case measure => have := hK.out; omega
      case rel =>
        have hk := hK.out
        exact ⟨k + 1, by omega, rfl, (hT.mixed hk9).drew, (hU.other (by simp) _).drew, (hV.other (by simp) _).drew, (hZ.other (by simp) _).drew, (hB.setCell (Nat.le_refl _) _).drew⟩
    · obtain rfl : k = 4 := by have := hK.out; omega
      have c0 := hT.cell (show 0 < 4 by decide)
      have c1 := hT.cell (show 1 < 4 by decide)
      have c2 := hT.cell (show 2 < 4 by decide)
      have c3 := hT.cell (show 3 < 4 by decide)
      have z0 := hZ.cell (show 0 < 4 by decide)
      have z1 := hZ.cell (show 1 < 4 by decide)
      have z2 := hZ.cell (show 2 < 4 by decide)
      have z3 := hZ.cell (show 3 < 4 by decide)
      have y0 := hZ.free 0
      have y1 := hZ.free 1
      have y2 := hZ.free 2
      have y3 := hZ.free 3
      go_wp2_with fail
      exact bodyPost_ret (results_tab rfl rfl (laid_tab hZ _)) rfl ⟨rfl, hB.trans ((laid_turned _ _ _).below hB.size (by omega))⟩
end Go.Proofs.YtfaccdnnjkkcfaaGreatDoor.Rf

namespace Go.Proofs.YtfaccdnnjkkcfaaGreatDoor.Rf
open Go Go.RowKit

/-- The program's table of the variables lies in block 0. -/
def Cols (w : World) : Prop := 0 < w.heap.size ∧ ∀ v k : Nat, v < 8 → k < 4 → w.cell? ⟨0, v * 4 + k, none⟩ = some (.int .u64 (word (M v) k : Int))
theorem Cols.cells {w : World} (hC : Cols w) (v : Nat) (hv : v < 8) : w.cell? ⟨0, v * 4, none⟩ = some (.int .u64 (word (M v) 0 : Int)) ∧ w.cell? ⟨0, v * 4 + 1, none⟩ = some (.int .u64 (word (M v) 1 : Int)) ∧ w.cell? ⟨0, v * 4 + 2, none⟩ = some (.int .u64 (word (M v) 2 : Int)) ∧ w.cell? ⟨0, v * 4 + 3, none⟩ = some (.int .u64 (word (M v) 3 : Int)) :=
  ⟨hC.2 v 0 hv (by decide), hC.2 v 1 hv (by decide), hC.2 v 2 hv (by decide), hC.2 v 3 hv (by decide)⟩
theorem cell_of_block {w u : World} {b j : Nat} (h : u.heap[b]? = w.heap[b]?) : u.cell? ⟨b, j, none⟩ = w.cell? ⟨b, j, none⟩ := by
  simp only [World.cell?, h]
theorem Cols.same {w u : World} (hC : Cols w) (hs : w.heap.size ≤ u.heap.size) (h : u.heap[0]? = w.heap[0]?) : Cols u :=
  ⟨Nat.lt_of_lt_of_le hC.1 hs, fun v k hv hk => (cell_of_block h).trans (hC.2 v k hv hk)⟩
theorem Cols.below {w u : World} {B : Nat} (hC : Cols w) (k : Below B w u) (hB : 0 < B) : Cols u := hC.same k.size (k.block 0 hB)
theorem Cols.kept {w u : World} (hC : Cols w) (k : Below w.heap.size w u) : Cols u := hC.below k hC.1
theorem Cols.drew {w : World} (hC : Cols w) : Cols w.drew := hC

theorem pvar_any (v : Nat) (hv : v < 8) (w : World) (hC : Cols w) :
    Calls Tryz.prog 75 #[.int .i64 (v : Int)] w fun e w' => e = .returned (tab (M v)) ∧ Below w.heap.size w w' := by
  obtain ⟨c0, c1, c2, c3⟩ := hC.cells v hv
  have hp := hC.1
  have h0 : decide (0 ≤ (v : Int) ∧ (v : Int) < 8) = true := by simp; omega
  have hv' : (v : Int) < 8 := by omega
  go_enter Tryz.func75, Tryz.ntmps75
  go_wp2_with (first
    | (go_at_call 83; refine (isVar_any _ _).mono ?_; rintro e w5 ⟨rfl, rfl⟩))
  exact bodyPost_ret (results_tab rfl rfl (IsTab.newAt (w := w) (n := w.heap.size) rfl (M v))) rfl ⟨rfl, (Below.refl w.heap.size w).alloc (Nat.le_refl _) _⟩
theorem pvar_none (v : Int) (hv : v < 0 ∨ 8 ≤ v) (w : World) :
    Calls Tryz.prog 75 #[.int .i64 v] w fun e w' => e = .returned (tab (fun _ => false)) ∧ Below w.heap.size w w' := by
  have h0 : decide (0 ≤ v ∧ v < 8) = false := by simp; omega
  go_enter Tryz.func75, Tryz.ntmps75
  have TZ := IsTab.zeroAt (w := w) (n := w.heap.size) rfl
  have B0 := (Below.refl w.heap.size w).alloc (Nat.le_refl _) (.cells #[.int .u64 0, .int .u64 0, .int .u64 0, .int .u64 0] 24)
  go_wp2_with (first
    | (go_at_call 83; refine (isVar_any _ _).mono ?_; rintro e w5 ⟨rfl, rfl⟩)
    | (go_at_call 72; refine (pconst_any _ _).mono ?_; unfold tab; rintro e w5 ⟨rfl, b5⟩; have T5 := TZ.kept b5; have B5 := below_far B0 b5; obtain ⟨z0, z1, z2, z3⟩ := T5.copy; have y0 := T5.free 0; have y1 := T5.free 1; have y2 := T5.free 2; have y3 := T5.free 3))
  exact bodyPost_ret (results_tab rfl rfl (laid_tab T5 _)) rfl ⟨rfl, B5.trans ((laid_turned _ _ _).below B5.size (Nat.le_refl _))⟩

/-- A function with variable v the other way round. -/
def turnF (F : Nat → Bool) (v : Nat) : Nat → Bool := fun x => F (x ^^^ 2 ^ v)
theorem flip_at (v x : Nat) (hv : v < 8) (hx : x < 256) : x ^^^ 2 ^ v = if M v x then x - 2 ^ v else x + 2 ^ v := by
  have h := below (n := v) (fun v => (List.range 256).all fun x => decide (x ^^^ 2 ^ v = if M v x then x - 2 ^ v else x + 2 ^ v)) 8 (by kernel_rfl) hv
  simpa using below (fun x => decide (x ^^^ 2 ^ v = if M v x then x - 2 ^ v else x + 2 ^ v)) 256 h hx
theorem flip_lt (v x : Nat) (hv : v < 8) (hx : x < 256) : x ^^^ 2 ^ v < 256 := Nat.xor_lt_two_pow (n := 8) hx (Nat.pow_lt_pow_right (by decide) hv)
theorem flip_M (v x : Nat) (hv : v < 8) (hx : x < 256) : M v (x ^^^ 2 ^ v) = !M v x := by
  have h := below (n := v) (fun v => (List.range 256).all fun x => M v (x ^^^ 2 ^ v) == !M v x) 8 (by kernel_rfl) hv
  simpa using below (fun x => M v (x ^^^ 2 ^ v) == !M v x) 256 h hx
theorem fixAt_flip (v x : Nat) (b : Bool) (hv : v < 8) (hx : x < 256) : fixAt v b x = if M v x == b then x else x ^^^ 2 ^ v := by
  rw [flip_at v x hv hx]
  unfold fixAt M
  by_cases h : x / 2 ^ v % 2 = 1 <;> cases b <;> simp [h]
theorem fix_true (F : Nat → Bool) (v x : Nat) (hv : v < 8) (hx : x < 256) : ((M v x && F x) || (!M v x && turnF F v x)) = fixF F v true x := by
  unfold fixF turnF
  rw [fixAt_flip v x true hv hx]
  cases M v x <;> simp
theorem fix_false (F : Nat → Bool) (v x : Nat) (hv : v < 8) (hx : x < 256) : ((M v x && turnF F v x) || (!M v x && F x)) = fixF F v false x := by
  unfold fixF turnF
  rw [fixAt_flip v x false hv hx]
  cases M v x <;> simp
theorem turn_or (F : Nat → Bool) (v x : Nat) (hv : v < 8) (hx : x < 256) : (F x || turnF F v x) = (fixF F v false x || fixF F v true x) := by
  unfold fixF turnF
  rw [fixAt_flip v x true hv hx, fixAt_flip v x false hv hx]
  cases M v x <;> simp [Bool.or_comm]
theorem turn_and (F : Nat → Bool) (v x : Nat) (hv : v < 8) (hx : x < 256) : (F x && turnF F v x) = (fixF F v false x && fixF F v true x) := by
  unfold fixF turnF
  rw [fixAt_flip v x true hv hx, fixAt_flip v x false hv hx]
  cases M v x <;> simp [Bool.and_comm]

theorem turn6 (F : Nat → Bool) (k j : Nat) (hk : k < 4) (h : j = if k % 2 = 1 then k - 1 else k + 1) : word (turnF F 6) k = word F j := by
  apply word_congr'
  intro i hi
  unfold turnF
  rw [flip_at 6 _ (by decide) (by omega)]
  have : M 6 (64 * k + i) = decide (k % 2 = 1) := by unfold M; congr 1; simp; omega
  rw [this]
  by_cases h1 : k % 2 = 1
  · rw [if_pos (by simpa using h1)]
    rw [if_pos h1] at h
    exact congrArg F (by omega)
  · rw [if_neg (by simpa using h1)]
    rw [if_neg h1] at h
    exact congrArg F (by omega)
theorem turn7 (F : Nat → Bool) (k j : Nat) (hk : k < 4) (h : j = if k / 2 % 2 = 1 then k - 2 else k + 2) : word (turnF F 7) k = word F j := by
  apply word_congr'
  intro i hi
  unfold turnF
  rw [flip_at 7 _ (by decide) (by omega)]
  have : M 7 (64 * k + i) = decide (k / 2 % 2 = 1) := by unfold M; congr 1; simp; omega
  rw [this]
  by_cases h1 : k / 2 % 2 = 1
  · rw [if_pos (by simpa using h1)]
    rw [if_pos h1] at h
    exact congrArg F (by omega)
  · rw [if_neg (by simpa using h1)]
    rw [if_neg h1] at h
    exact congrArg F (by omega)

theorem turned_6 (F : Nat → Bool) (w : World) :
    Calls Tryz.prog 71 #[tab F, .int .i64 6] w fun e w' => e = .returned (tab (turnF F 6)) ∧ Below w.heap.size w w' := by
  conv in #[tab F, Value.int IntKind.i64 6] => unfold tab
  have b0 : bits .xor .i64 0 1 = 1 := by kernel_rfl
  have b1 : bits .xor .i64 1 1 = 0 := by kernel_rfl
  have b2 : bits .xor .i64 2 1 = 3 := by kernel_rfl
  have b3 : bits .xor .i64 3 1 = 2 := by kernel_rfl
  go_enter Tryz.func71, Tryz.ntmps71
  go_wp2_with fail
  go_rounds 5
  exact bodyPost_ret (results_tab rfl rfl ((IsTab.wordsAt (by simp) (turnF F 6) (turn6 F 0 1 (by decide) rfl) (turn6 F 1 0 (by decide) rfl) (turn6 F 2 3 (by decide) rfl) (turn6 F 3 2 (by decide) rfl)).alloc _)) rfl
    ⟨rfl, (((Below.refl _ w).alloc (Nat.le_refl _) _).alloc (by simp) _).alloc (by simp; omega) _⟩
theorem turned_7 (F : Nat → Bool) (w : World) :
    Calls Tryz.prog 71 #[tab F, .int .i64 7] w fun e w' => e = .returned (tab (turnF F 7)) ∧ Below w.heap.size w w' := by
  conv in #[tab F, Value.int IntKind.i64 7] => unfold tab
  have b0 : bits .xor .i64 0 2 = 2 := by kernel_rfl
  have b1 : bits .xor .i64 1 2 = 3 := by kernel_rfl
  have b2 : bits .xor .i64 2 2 = 0 := by kernel_rfl
  have b3 : bits .xor .i64 3 2 = 1 := by kernel_rfl
  go_enter Tryz.func71, Tryz.ntmps71
  go_wp2_with fail
  go_rounds 5
  exact bodyPost_ret (results_tab rfl rfl ((IsTab.wordsAt (by simp) (turnF F 7) (turn7 F 0 2 (by decide) rfl) (turn7 F 1 3 (by decide) rfl) (turn7 F 2 0 (by decide) rfl) (turn7 F 3 1 (by decide) rfl)).alloc _)) rfl
    ⟨rfl, (((Below.refl _ w).alloc (Nat.le_refl _) _).alloc (by simp) _).alloc (by simp; omega) _⟩

theorem turn_low (F : Nat → Bool) (v k : Nat) (hv : v < 6) (hk : k < 4) : (word F k &&& word (M v) k) / 2 ^ (2 ^ v) ||| (word F k * 2 ^ (2 ^ v) % 18446744073709551616 &&& word (M v) k) = word (turnF F v) k := by
  apply Nat.eq_of_testBit_eq
  intro i
  rw [Nat.testBit_or, Nat.testBit_div_two_pow, Nat.testBit_and, Nat.testBit_and, show (18446744073709551616 : Nat) = 2 ^ 64 from rfl, Nat.testBit_mod_two_pow, Nat.testBit_mul_two_pow, word_bit, word_bit, word_bit, word_bit, word_bit]
  have hM := M_word v k i hv
  by_cases hi : i < 64
  · unfold turnF
    simp only [hi, decide_true, Bool.true_and, hM]
    rw [flip_at v (64 * k + i) (by omega) (by omega), hM]
    by_cases hb : M v i = true
    · have hb' : (64 * k + i) / 2 ^ v % 2 = 1 := by rw [← hM] at hb; simpa [M] using hb
      have hn : M v (64 * k + (i + 2 ^ v)) = false ∧ 2 ^ v ≤ i ∧ i - 2 ^ v < 64 ∧ 64 * k + (i - 2 ^ v) = 64 * k + i - 2 ^ v := by
        have h : v = 0 ∨ v = 1 ∨ v = 2 ∨ v = 3 ∨ v = 4 ∨ v = 5 := by omega
        unfold M
        rcases h with rfl | rfl | rfl | rfl | rfl | rfl <;> (simp at hb' ⊢; omega)
      rw [hn.1, hb]
      simp [hn.2.1, hn.2.2.1, hn.2.2.2]
    · have hb0 : M v i = false := by simpa using hb
      have hb' : ¬ (64 * k + i) / 2 ^ v % 2 = 1 := by rw [← hM] at hb0; simpa [M] using hb0
      have hn : M v (64 * k + (i + 2 ^ v)) = true ∧ i + 2 ^ v < 64 := by
        have h : v = 0 ∨ v = 1 ∨ v = 2 ∨ v = 3 ∨ v = 4 ∨ v = 5 := by omega
        unfold M
        rcases h with rfl | rfl | rfl | rfl | rfl | rfl <;> (simp at hb' ⊢; omega)
      rw [hn.1, hb0]
      simp [hn.2, Nat.add_assoc]
  · have : ¬ i + 2 ^ v < 64 := Nat.not_lt.2 (Nat.le_trans (Nat.not_lt.1 hi) (Nat.le_add_right _ _))
    simp [hi, this]
theorem turn_int (F : Nat → Bool) (v k S : Nat) (hv : v < 6) (hk : k < 4) (hS : 2 ^ v = S) : bits .or .u64 (bits .and .u64 (word F k : Int) (word (M v) k : Int) / 2 ^ S) (bits .and .u64 (IntKind.u64.wrap ((word F k : Int) * 2 ^ S)) (word (M v) k : Int)) = (word (turnF F v) k : Int) := by
  subst hS
  have h1 : IntKind.u64.wrap ((word F k : Int) * 2 ^ (2 ^ v)) = ((word F k * 2 ^ (2 ^ v) % 18446744073709551616 : Nat) : Int) := by
    have h2 : (word F k : Int) * 2 ^ (2 ^ v) = ((word F k * 2 ^ (2 ^ v) : Nat) : Int) := by push_cast; rfl
    rw [IntKind.wrap_u64, h2]
    exact (Int.natCast_emod _ 18446744073709551616).symm
  have hlt : word F k &&& word (M v) k < 18446744073709551616 := Nat.lt_of_le_of_lt Nat.and_le_left (word_lt F k)
  have h3 : (((word F k &&& word (M v) k : Nat) : Int) / 2 ^ (2 ^ v)) = (((word F k &&& word (M v) k) / 2 ^ (2 ^ v) : Nat) : Int) := by push_cast; rfl
  rw [h1, u64_and_nat _ _ (word_lt _ k) (word_lt _ k), u64_and_nat _ _ (Nat.mod_lt _ (by decide)) (word_lt _ k), h3, u64_or_nat _ _ (Nat.lt_of_le_of_lt (Nat.div_le_self _ _) hlt) (Nat.lt_of_le_of_lt Nat.and_le_right (word_lt _ k)), turn_low F v k hv hk]
end Go.Proofs.YtfaccdnnjkkcfaaGreatDoor.Rf

namespace Go.Proofs.YtfaccdnnjkkcfaaGreatDoor.Rf
open Go Go.RowKit

theorem isVar_yes (v : Nat) (hv : v < 8) (w : World) : Calls Tryz.prog 83 #[.int .i64 (v : Int)] w fun e w' => e = .returned (.bool true) ∧ w' = w := by
  have h := isVar_any (v : Int) w
  rwa [show decide (0 ≤ (v : Int) ∧ (v : Int) < 8) = true by simp; omega] at h
theorem isVar_no (v : Int) (hv : v < 0 ∨ 8 ≤ v) (w : World) : Calls Tryz.prog 83 #[.int .i64 v] w fun e w' => e = .returned (.bool false) ∧ w' = w := by
  have h := isVar_any v w
  rwa [show decide (0 ≤ v ∧ v < 8) = false by simp; omega] at h
theorem index_words (a b c d : Int) (w : World) :
    (Instr.index 24 (.agg #[.int .u64 a, .int .u64 b, .int .u64 c, .int .u64 d]) (.int .i64 0)).run Tryz.prog w = .ok (.int .u64 a) w ∧
    (Instr.index 24 (.agg #[.int .u64 a, .int .u64 b, .int .u64 c, .int .u64 d]) (.int .i64 1)).run Tryz.prog w = .ok (.int .u64 b) w ∧
    (Instr.index 24 (.agg #[.int .u64 a, .int .u64 b, .int .u64 c, .int .u64 d]) (.int .i64 2)).run Tryz.prog w = .ok (.int .u64 c) w ∧
    (Instr.index 24 (.agg #[.int .u64 a, .int .u64 b, .int .u64 c, .int .u64 d]) (.int .i64 3)).run Tryz.prog w = .ok (.int .u64 d) w := ⟨by kernel_rfl, by kernel_rfl, by kernel_rfl, by kernel_rfl⟩
theorem index_tab (F : Nat → Bool) (k : Nat) (hk : k < 4) (w : World) :
    (Instr.index 24 (.agg #[.int .u64 (word F 0 : Int), .int .u64 (word F 1 : Int), .int .u64 (word F 2 : Int), .int .u64 (word F 3 : Int)]) (.int .i64 (k : Int))).run Tryz.prog w = .ok (.int .u64 (word F k : Int)) w := by
  have h : k = 0 ∨ k = 1 ∨ k = 2 ∨ k = 3 := by omega
  obtain ⟨a, b, c, d⟩ := index_words (word F 0) (word F 1) (word F 2) (word F 3) w
  rcases h with rfl | rfl | rfl | rfl
  · exact a
  · exact b
  · exact c
  · exact d

set_option maxHeartbeats 1600000 in
theorem turned_low (F : Nat → Bool) (v : Nat) (hv : v < 6) (w : World) (hC : Cols w) :
    Calls Tryz.prog 71 #[tab F, .int .i64 (v : Int)] w fun e w' => e = .returned (tab (turnF F v)) ∧ Below w.heap.size w w' := by
  have R : Hid (tab (turnF F v) = tab (mix 4 (fun _ => false) (turnF F v))) := (tab_ext fun x hx => mix_all (fun _ => false) (turnF F v) x hx).symm
  rw [R.out]
  clear R
  obtain ⟨S, hS⟩ : ∃ S : Nat, 2 ^ v = S := ⟨_, rfl⟩
  have hS1 : S ≤ 32 := by rw [← hS]; exact Nat.pow_le_pow_right (n := 2) (by decide) (show v ≤ 5 by omega)
  have hS0 : 0 < S := by rw [← hS]; exact Nat.pow_pos (by decide)
  have hSS : IntKind.i64.wrap (2 ^ v) = (S : Int) := by
    have h2 : (2 : Int) ^ v = ((2 ^ v : Nat) : Int) := by push_cast; rfl
    rw [h2, hS, IntKind.wrap_i64]
    omega
  have hSA : Hid (2 ^ v = S) := hS
  clear hS
  have hv6 : decide ((v : Int) ≥ 6) = false := by simp; omega
  have hv8 : (v : Int) < 8 := by omega
  obtain ⟨c0, c1, c2, c3⟩ := hC.cells v (by omega)
  have hp := hC.1
  conv in #[tab F, Value.int IntKind.i64 (v : Int)] => unfold tab
  go_enter Tryz.func71, Tryz.ntmps71
  go_wp2_with fail
  go_loopg [31] 4 (fun g si wr => ∃ k : Nat, k + g = 4 ∧ si = .int .i64 (k : Int) ∧ IsTab wr w.heap.size F ∧ IsTab wr (w.heap.size + 1) (fun _ => false) ∧ IsTab wr (w.heap.size + 2) (mix k (fun _ => false) (turnF F v)) ∧ Below w.heap.size w wr)
  case atStart =>
    exact ⟨0, by omega, rfl, ((IsTab.new w F).alloc _).alloc _, (IsTab.zeroAt (by simp)).alloc _, (IsTab.zeroAt (by simp)).ext fun y _ => mix_none (fun _ => false) (turnF F v) y, (((Below.refl _ w).alloc (Nat.le_refl _) _).alloc (by simp) _).alloc (by simp; omega) _⟩
  case round =>
    obtain ⟨k, hk, rfl, hF, hZ, hT, hB⟩ := hrel
    have hK : Aside (k + gk = 4) := hk
    clear hk
    by_cases hk9 : k < 4
    · have hk9' : (k : Int) < 4 := by omega
      have d0 := hF.cell hk9
      have e0 := hT.cell hk9
      have f0 := hT.free k
      have ix := index_tab (M v) k hk9
      go_wp2_with fail
      go_region
      rw [turn_int F v k S hv hk9 hSA.out]
      go_wp2_with fail
      go_roundg (gk - 1)
      case measure => have := hK.out; omega
      case rel =>
        have hk := hK.out
        exact ⟨k + 1, by omega, rfl, (hF.other (by simp; omega) _).drew, (hZ.other (by simp) _).drew, (hT.mixed hk9).drew, (hB.setCell (by simp; omega) _).drew⟩
    · obtain rfl : k = 4 := by have := hK.out; omega
      obtain ⟨d0, d1, d2, d3⟩ := hT.copy
      obtain ⟨z0, z1, z2, z3⟩ := hZ.copy
      have y0 := hZ.free 0
      have y1 := hZ.free 1
      have y2 := hZ.free 2
      have y3 := hZ.free 3
      go_wp2_with fail
      exact bodyPost_ret (results_tab rfl rfl (laid_tab hZ _)) rfl ⟨rfl, hB.trans ((laid_turned _ _ _).below hB.size (by omega))⟩

theorem turned_any (F : Nat → Bool) (v : Nat) (hv : v < 8) (w : World) (hC : Cols w) :
    Calls Tryz.prog 71 #[tab F, .int .i64 (v : Int)] w fun e w' => e = .returned (tab (turnF F v)) ∧ Below w.heap.size w w' := by
  by_cases h6 : v < 6
  · exact turned_low F v h6 w hC
  · have h : v = 6 ∨ v = 7 := by omega
    rcases h with rfl | rfl
    · exact turned_6 F w
    · exact turned_7 F w

theorem pfix_none (F : Nat → Bool) (v : Int) (b : Bool) (hv : v < 0 ∨ 8 ≤ v) (w : World) :
    Calls Tryz.prog 73 #[tab F, .int .i64 v, .bool b] w fun e w' => e = .returned (tab F) ∧ Below w.heap.size w w' := by
  conv in #[tab F, Value.int IntKind.i64 v, Value.bool b] => unfold tab
  go_enter Tryz.func73, Tryz.ntmps73
  go_wp2_with (first
    | (go_at_call 83; refine (isVar_no v hv _).mono ?_; rintro e w5 ⟨rfl, rfl⟩))
  exact bodyPost_ret (results_tab rfl rfl (IsTab.newAt (by simp) F)) rfl ⟨rfl, ((Below.refl _ w).alloc (Nat.le_refl _) _).alloc (by simp) _⟩

theorem pfix_true (F : Nat → Bool) (v : Nat) (hv : v < 8) (w : World) (hC : Cols w) :
    Calls Tryz.prog 73 #[tab F, .int .i64 (v : Int), .bool true] w fun e w' => e = .returned (tab (fixF F v true)) ∧ Below w.heap.size w w' := by
  have R : Hid (tab (fixF F v true) = tab (fun x => (M v x && F x) || (!M v x && turnF F v x))) := (tab_ext fun x hx => fix_true F v x hv hx).symm
  rw [R.out]
  clear R
  conv in #[tab F, Value.int IntKind.i64 (v : Int), Value.bool true] => unfold tab
  have B0 := ((Below.refl _ w).alloc (Nat.le_refl _) (.cells #[.int .u64 (word F 0 : Int), .int .u64 (word F 1 : Int), .int .u64 (word F 2 : Int), .int .u64 (word F 3 : Int)] 24)).alloc (by simp) (.cells #[.int .u64 0, .int .u64 0, .int .u64 0, .int .u64 0] 24)
  have TF := (IsTab.new w F).alloc (.cells #[.int .u64 0, .int .u64 0, .int .u64 0, .int .u64 0] 24)
  have TZ := IsTab.zeroAt (w := w.alloc (.cells #[.int .u64 (word F 0 : Int), .int .u64 (word F 1 : Int), .int .u64 (word F 2 : Int), .int .u64 (word F 3 : Int)] 24)) (n := w.heap.size + 1) (by simp)
  go_enter Tryz.func73, Tryz.ntmps73
  go_wp2_with (first
    | (go_at_call 83; refine (isVar_yes v hv _).mono ?_; rintro e w5 ⟨rfl, rfl⟩))
  generalize (w.alloc (.cells #[.int .u64 (word F 0 : Int), .int .u64 (word F 1 : Int), .int .u64 (word F 2 : Int), .int .u64 (word F 3 : Int)] 24)).alloc (.cells #[.int .u64 0, .int .u64 0, .int .u64 0, .int .u64 0] 24) = w4 at B0 TF TZ ⊢
  have C4 := hC.kept B0
  have l0 : ∀ u, Sit w4 (w.heap.size + 1) u → u.cell? ⟨w.heap.size, 0, none⟩ = some (.int .u64 (word F 0 : Int)) := fun u s => s.cell TF (by omega) (by decide)
  have l1 : ∀ u, Sit w4 (w.heap.size + 1) u → u.cell? ⟨w.heap.size, 1, none⟩ = some (.int .u64 (word F 1 : Int)) := fun u s => s.cell TF (by omega) (by decide)
  have l2 : ∀ u, Sit w4 (w.heap.size + 1) u → u.cell? ⟨w.heap.size, 2, none⟩ = some (.int .u64 (word F 2 : Int)) := fun u s => s.cell TF (by omega) (by decide)
  have l3 : ∀ u, Sit w4 (w.heap.size + 1) u → u.cell? ⟨w.heap.size, 3, none⟩ = some (.int .u64 (word F 3 : Int)) := fun u s => s.cell TF (by omega) (by decide)
  have r0 : ∀ u, Sit w4 (w.heap.size + 1) u → u.cell? ⟨w.heap.size + 1, 0, none⟩ = some (valAt u (w.heap.size + 1) 0) := fun u s => s.place (by decide)
  have r1 : ∀ u, Sit w4 (w.heap.size + 1) u → u.cell? ⟨w.heap.size + 1, 1, none⟩ = some (valAt u (w.heap.size + 1) 1) := fun u s => s.place (by decide)
  have r2 : ∀ u, Sit w4 (w.heap.size + 1) u → u.cell? ⟨w.heap.size + 1, 2, none⟩ = some (valAt u (w.heap.size + 1) 2) := fun u s => s.place (by decide)
  have r3 : ∀ u, Sit w4 (w.heap.size + 1) u → u.cell? ⟨w.heap.size + 1, 3, none⟩ = some (valAt u (w.heap.size + 1) 3) := fun u s => s.place (by decide)
  have rf : ∀ k u, Sit w4 (w.heap.size + 1) u → u.frozen? ⟨w.heap.size + 1, k, none⟩ = false := fun k u s => s.free k
  have hc : ∀ u, Sit w4 (w.heap.size + 1) u → Cols u := fun u s => C4.same s.turned.size (s.turned.block 0 C4.1 (by omega))
  go_region_held3 (fun u => Sit w4 (w.heap.size + 1) u) (first | assumption | exact Sit.start TZ | exact Sit.call (by assumption) (by assumption) | exact Sit.laid (by assumption) _) (first
    | (go_at_call 75; refine (pvar_any v hv _ (hc _ (by assumption))).mono ?_; rintro e w6 ⟨rfl, b6⟩)
    | (go_at_call 71; refine (turned_any F v hv _ (hc _ (by assumption))).mono ?_; rintro e w6 ⟨rfl, b6⟩)
    | (go_at_call 76; refine (pite_any _ _ _ _).mono ?_; unfold tab; rintro e w6 ⟨rfl, b6⟩))
  have S6 : Sit w4 (w.heap.size + 1) w6 := Sit.call b6 (Sit.call (by assumption) (Sit.call (by assumption) (Sit.start TZ)))
  obtain ⟨F', hF'⟩ := S6.room
  go_wp2_with fail
  exact bodyPost_ret (results_tab rfl rfl (laid_tab hF' _)) rfl ⟨rfl, B0.trans ((S6.laid _).turned.below B0.size (by omega))⟩

theorem pfix_false (F : Nat → Bool) (v : Nat) (hv : v < 8) (w : World) (hC : Cols w) :
    Calls Tryz.prog 73 #[tab F, .int .i64 (v : Int), .bool false] w fun e w' => e = .returned (tab (fixF F v false)) ∧ Below w.heap.size w w' := by
  have R : Hid (tab (fixF F v false) = tab (fun x => (M v x && turnF F v x) || (!M v x && F x))) := (tab_ext fun x hx => fix_false F v x hv hx).symm
  rw [R.out]
  clear R
  conv in #[tab F, Value.int IntKind.i64 (v : Int), Value.bool false] => unfold tab
  have B0 := ((Below.refl _ w).alloc (Nat.le_refl _) (.cells #[.int .u64 (word F 0 : Int), .int .u64 (word F 1 : Int), .int .u64 (word F 2 : Int), .int .u64 (word F 3 : Int)] 24)).alloc (by simp) (.cells #[.int .u64 0, .int .u64 0, .int .u64 0, .int .u64 0] 24)
  have TF := (IsTab.new w F).alloc (.cells #[.int .u64 0, .int .u64 0, .int .u64 0, .int .u64 0] 24)
  have TZ := IsTab.zeroAt (w := w.alloc (.cells #[.int .u64 (word F 0 : Int), .int .u64 (word F 1 : Int), .int .u64 (word F 2 : Int), .int .u64 (word F 3 : Int)] 24)) (n := w.heap.size + 1) (by simp)
  go_enter Tryz.func73, Tryz.ntmps73
  go_wp2_with (first
    | (go_at_call 83; refine (isVar_yes v hv _).mono ?_; rintro e w5 ⟨rfl, rfl⟩))
  generalize (w.alloc (.cells #[.int .u64 (word F 0 : Int), .int .u64 (word F 1 : Int), .int .u64 (word F 2 : Int), .int .u64 (word F 3 : Int)] 24)).alloc (.cells #[.int .u64 0, .int .u64 0, .int .u64 0, .int .u64 0] 24) = w4 at B0 TF TZ ⊢
  have C4 := hC.kept B0
  have l0 : ∀ u, Sit w4 (w.heap.size + 1) u → u.cell? ⟨w.heap.size, 0, none⟩ = some (.int .u64 (word F 0 : Int)) := fun u s => s.cell TF (by omega) (by decide)
  have l1 : ∀ u, Sit w4 (w.heap.size + 1) u → u.cell? ⟨w.heap.size, 1, none⟩ = some (.int .u64 (word F 1 : Int)) := fun u s => s.cell TF (by omega) (by decide)
  have l2 : ∀ u, Sit w4 (w.heap.size + 1) u → u.cell? ⟨w.heap.size, 2, none⟩ = some (.int .u64 (word F 2 : Int)) := fun u s => s.cell TF (by omega) (by decide)
  have l3 : ∀ u, Sit w4 (w.heap.size + 1) u → u.cell? ⟨w.heap.size, 3, none⟩ = some (.int .u64 (word F 3 : Int)) := fun u s => s.cell TF (by omega) (by decide)
  have r0 : ∀ u, Sit w4 (w.heap.size + 1) u → u.cell? ⟨w.heap.size + 1, 0, none⟩ = some (valAt u (w.heap.size + 1) 0) := fun u s => s.place (by decide)
  have r1 : ∀ u, Sit w4 (w.heap.size + 1) u → u.cell? ⟨w.heap.size + 1, 1, none⟩ = some (valAt u (w.heap.size + 1) 1) := fun u s => s.place (by decide)
  have r2 : ∀ u, Sit w4 (w.heap.size + 1) u → u.cell? ⟨w.heap.size + 1, 2, none⟩ = some (valAt u (w.heap.size + 1) 2) := fun u s => s.place (by decide)
  have r3 : ∀ u, Sit w4 (w.heap.size + 1) u → u.cell? ⟨w.heap.size + 1, 3, none⟩ = some (valAt u (w.heap.size + 1) 3) := fun u s => s.place (by decide)
  have rf : ∀ k u, Sit w4 (w.heap.size + 1) u → u.frozen? ⟨w.heap.size + 1, k, none⟩ = false := fun k u s => s.free k
  have hc : ∀ u, Sit w4 (w.heap.size + 1) u → Cols u := fun u s => C4.same s.turned.size (s.turned.block 0 C4.1 (by omega))
  go_region_held3 (fun u => Sit w4 (w.heap.size + 1) u) (first | assumption | exact Sit.start TZ | exact Sit.call (by assumption) (by assumption) | exact Sit.laid (by assumption) _) (first
    | (go_at_call 75; refine (pvar_any v hv _ (hc _ (by assumption))).mono ?_; rintro e w6 ⟨rfl, b6⟩)
    | (go_at_call 71; refine (turned_any F v hv _ (hc _ (by assumption))).mono ?_; rintro e w6 ⟨rfl, b6⟩)
    | (go_at_call 76; refine (pite_any _ _ _ _).mono ?_; unfold tab; rintro e w6 ⟨rfl, b6⟩))
  have S6 : Sit w4 (w.heap.size + 1) w6 := Sit.call b6 (Sit.call (by assumption) (Sit.call (by assumption) (Sit.start TZ)))
  obtain ⟨F', hF'⟩ := S6.room
  go_wp2_with fail
  exact bodyPost_ret (results_tab rfl rfl (laid_tab hF' _)) rfl ⟨rfl, B0.trans ((S6.laid _).turned.below B0.size (by omega))⟩

theorem pfix_any (F : Nat → Bool) (v : Nat) (hv : v < 8) (b : Bool) (w : World) (hC : Cols w) :
    Calls Tryz.prog 73 #[tab F, .int .i64 (v : Int), .bool b] w fun e w' => e = .returned (tab (fixF F v b)) ∧ Below w.heap.size w w' := by
  cases b
  · exact pfix_false F v hv w hC
  · exact pfix_true F v hv w hC
end Go.Proofs.YtfaccdnnjkkcfaaGreatDoor.Rf

namespace Go.Proofs.YtfaccdnnjkkcfaaGreatDoor.Rf
open Go Go.RowKit

theorem same_turn (F : Nat → Bool) (v : Nat) (hv : v < 8) : Go.Proofs.YtfaccdnnjkkcfaaGreatDoor.Rf.same F (turnF F v) = Go.Proofs.YtfaccdnnjkkcfaaGreatDoor.Rf.same (fixF F v false) (fixF F v true) := by
  rw [Bool.eq_iff_iff, same_iff, same_iff]
  constructor
  · intro h x hx
    unfold fixF
    rw [fixAt_flip v x false hv hx, fixAt_flip v x true hv hx]
    have := h x hx
    unfold turnF at this
    cases M v x <;> simp [this]
  · intro h x hx
    have := h x hx
    unfold fixF at this
    rw [fixAt_flip v x false hv hx, fixAt_flip v x true hv hx] at this
    unfold turnF
    cases hm : M v x <;> simp [hm] at this <;> simp [this]

set_option maxHeartbeats 800000 in
theorem psupport_any (F : Nat → Bool) (w : World) (hC : Cols w) :
    Calls Tryz.prog 43 #[tab F] w fun e w' => e = .returned (.int .u8 (supUpto F 8 : Int)) ∧ Below w.heap.size w w' := by
  conv in #[tab F] => unfold tab
  have TF := IsTab.new w F
  have B0 := (Below.refl _ w).alloc (Nat.le_refl _) (.cells #[.int .u64 (word F 0 : Int), .int .u64 (word F 1 : Int), .int .u64 (word F 2 : Int), .int .u64 (word F 3 : Int)] 24)
  go_enter Tryz.func43, Tryz.ntmps43
  go_wp2_with fail
  generalize w.alloc (.cells #[.int .u64 (word F 0 : Int), .int .u64 (word F 1 : Int), .int .u64 (word F 2 : Int), .int .u64 (word F 3 : Int)] 24) = w4 at TF B0 ⊢
  go_loopg [3, 5] 8 (fun g sn si wr => ∃ v : Nat, v + g = 8 ∧ si = .int .i64 (v : Int) ∧ sn = .int .u8 (supUpto F v : Int) ∧ IsTab wr w.heap.size F ∧ Below w.heap.size w wr)
  case atStart => exact ⟨0, by omega, rfl, rfl, TF, B0⟩
  case round =>
    obtain ⟨v, hv, rfl, rfl, hT, hB⟩ := hrel
    have hV : Aside (v + gk = 8) := hv
    clear hv
    by_cases hv8 : v < 8
    · have hv8' : (v : Int) < 8 := by omega
      have hCr := hC.kept hB
      have hl := sup_lt F v (by omega)
      have hs : Aside (supUpto F (v + 1) = if Go.Proofs.YtfaccdnnjkkcfaaGreatDoor.Rf.same F (turnF F v) then supUpto F v else supUpto F v ||| 2 ^ v) := by simp only [Aside]; rw [same_turn F v hv8]; rfl
      have heq : ∀ w, (Op.equalIn 10000 24 (tab F) (tab (turnF F v))).run Tryz.prog w = .ok (Go.Proofs.YtfaccdnnjkkcfaaGreatDoor.Rf.same F (turnF F v)) w := fun w => equal_tab _ _ w
      unfold tab at heq
      generalize supUpto F v = n at hl hs
      obtain ⟨c0, c1, c2, c3⟩ := hT.copy
      cases hsm : Go.Proofs.YtfaccdnnjkkcfaaGreatDoor.Rf.same F (turnF F v) with
      | true =>
        rw [hsm] at hs
        simp only [hsm] at heq
        go_wp2_with fail
        go_region_with (first
          | (go_at_call 71; refine (turned_any F v hv8 _ hCr.drew).mono ?_; unfold tab; rintro e w6 ⟨rfl, b6⟩; have T6 : IsTab w6 w.heap.size F := IsTab.kept hT.drew b6; obtain ⟨q0, q1, q2, q3⟩ := T6.copy))
        all_goals go_wp2_with fail
        all_goals go_roundg (gk - 1)
        all_goals first
          | (have := hV.out; omega)
          | (have := hV.out
             exact ⟨v + 1, by omega, rfl, by rw [hs.out]; rfl, T6, below_far hB (below_undrew b6)⟩)
      | false =>
        rw [hsm] at hs
        simp only [hsm] at heq
        go_wp2_with fail
        go_region_with (first
          | (go_at_call 71; refine (turned_any F v hv8 _ hCr.drew).mono ?_; unfold tab; rintro e w6 ⟨rfl, b6⟩; have T6 : IsTab w6 w.heap.size F := IsTab.kept hT.drew b6; obtain ⟨q0, q1, q2, q3⟩ := T6.copy))
        all_goals go_wp2_with fail
        all_goals go_roundg (gk - 1)
        all_goals first
          | (have := hV.out; omega)
          | (have := hV.out
             exact ⟨v + 1, by omega, rfl, by rw [hs.out, if_neg (by decide), or_pow8' n v hl hv8], T6, below_far hB (below_undrew b6)⟩)
    · obtain rfl : v = 8 := by have := hV.out; omega
      go_wp2_with fail
      go_ret
      exact ⟨rfl, hB⟩
end Go.Proofs.YtfaccdnnjkkcfaaGreatDoor.Rf
