/-
  Counting, the variables that a function hangs on, its least assignment: what the program's own calls return.
-/
import Derived.Test.YtmfocngdobcfcabDoorPfix
import Derived.Test.YtmfocngdobcfcabDoorForm
import Derived.Test.YtmfocngdobcfcabDoorMoreb
import Derived.Handy
namespace Go.Proofs.YtmfocngdobcfcabDoor
open Go Go.RowKit Num

/-- The table of masks of package bits lies in block 1. -/
def Grp (w : World) : Prop := 1 < w.heap.size ∧ w.cell? ⟨1, 0, none⟩ = some (.int .u64 6148914691236517205) ∧ w.cell? ⟨1, 1, none⟩ = some (.int .u64 3689348814741910323) ∧ w.cell? ⟨1, 2, none⟩ = some (.int .u64 1085102592571150095) ∧ w.cell? ⟨1, 3, none⟩ = some (.int .u64 71777214294589695) ∧ w.cell? ⟨1, 4, none⟩ = some (.int .u64 281470681808895) ∧ w.cell? ⟨1, 5, none⟩ = some (.int .u64 4294967295)
theorem Grp.same {w u : World} (h : Grp w) (hs : w.heap.size ≤ u.heap.size) (e : u.heap[1]? = w.heap[1]?) : Grp u := by
  obtain ⟨h0, c0, c1, c2, c3, c4, c5⟩ := h
  exact ⟨Nat.lt_of_lt_of_le h0 hs, (cell_of_block e).trans c0, (cell_of_block e).trans c1, (cell_of_block e).trans c2, (cell_of_block e).trans c3, (cell_of_block e).trans c4, (cell_of_block e).trans c5⟩
theorem Grp.kept {w u : World} (h : Grp w) (k : Below w.heap.size w u) : Grp u := h.same k.size (k.block 1 h.1)
theorem Grp.drew {w : World} (h : Grp w) : Grp w.drew := h

theorem width_any (k : Int) (w : World) (h0 : 0 ≤ k) (h1 : k ≤ 63) :
    Calls Tryd.prog 27 #[.int .i64 k] w fun e w' => e = .returned (.int .u64 (IntKind.u64.wrap (2 ^ k.toNat))) ∧ w' = w := by
  go_enter Tryd.func27, Tryd.ntmps27
  go_wp2
  go_ret
  exact ⟨rfl, rfl⟩

theorem ones_any (x : Int) (w : World) (h0 : 0 ≤ x) (h1 : x ≤ 18446744073709551615) (T : Grp w) :
    Calls Tryd.prog 20 #[.int .u64 x] w fun e w' => e = .returned (.int .i64 (onesZ x)) ∧ w' = w := by
  obtain ⟨c0, c1, c2, c3, c4, c5⟩ := T.2
  have ix : ∀ (w : World) (a b c d e f : Int),
      (Instr.index 54 (.agg #[.int .u64 a, .int .u64 b, .int .u64 c, .int .u64 d, .int .u64 e, .int .u64 f]) (.int .i64 0)).run Tryd.prog w = .ok (.int .u64 a) w ∧
      (Instr.index 54 (.agg #[.int .u64 a, .int .u64 b, .int .u64 c, .int .u64 d, .int .u64 e, .int .u64 f]) (.int .i64 1)).run Tryd.prog w = .ok (.int .u64 b) w ∧
      (Instr.index 54 (.agg #[.int .u64 a, .int .u64 b, .int .u64 c, .int .u64 d, .int .u64 e, .int .u64 f]) (.int .i64 2)).run Tryd.prog w = .ok (.int .u64 c) w ∧
      (Instr.index 54 (.agg #[.int .u64 a, .int .u64 b, .int .u64 c, .int .u64 d, .int .u64 e, .int .u64 f]) (.int .i64 3)).run Tryd.prog w = .ok (.int .u64 d) w ∧
      (Instr.index 54 (.agg #[.int .u64 a, .int .u64 b, .int .u64 c, .int .u64 d, .int .u64 e, .int .u64 f]) (.int .i64 4)).run Tryd.prog w = .ok (.int .u64 e) w ∧
      (Instr.index 54 (.agg #[.int .u64 a, .int .u64 b, .int .u64 c, .int .u64 d, .int .u64 e, .int .u64 f]) (.int .i64 5)).run Tryd.prog w = .ok (.int .u64 f) w := fun _ _ _ _ _ _ _ => ⟨by kernel_rfl, by kernel_rfl, by kernel_rfl, by kernel_rfl, by kernel_rfl, by kernel_rfl⟩
  have b1 := stZ_bd 6148914691236517205 2 x
  have b2 := stZ_bd 3689348814741910323 4 (o1 x)
  have b3 := stZ_bd 1085102592571150095 16 (o2 x)
  have b4 := stZ_bd 71777214294589695 256 (o3 x)
  have b5 := stZ_bd 281470681808895 65536 (o4 x)
  have B6 : 0 ≤ onesZ x ∧ onesZ x ≤ 64 := ⟨onesZ_lo x, onesZ_hi x⟩
  rw [← o6_form x h0 h1] at *
  have B1 : 0 ≤ o1 x ∧ o1 x ≤ 18446744073709551615 := b1
  have B2 : 0 ≤ o2 x ∧ o2 x ≤ 18446744073709551615 := b2
  have B3 : 0 ≤ o3 x ∧ o3 x ≤ 18446744073709551615 := b3
  have B4 : 0 ≤ o4 x ∧ o4 x ≤ 18446744073709551615 := b4
  have B5 : 0 ≤ o5 x ∧ o5 x ≤ 18446744073709551615 := b5
  clear b1 b2 b3 b4 b5
  obtain ⟨l1, u1⟩ := B1
  obtain ⟨l2, u2⟩ := B2
  obtain ⟨l3, u3⟩ := B3
  obtain ⟨l4, u4⟩ := B4
  obtain ⟨l5, u5⟩ := B5
  obtain ⟨l6, u6⟩ := B6
  go_enter Tryd.func20, Tryd.ntmps20
  go_wp2_with (first | (go_at_call 27; refine (width_any _ _ (by omega) (by omega)).mono ?_; rintro e w6 ⟨rfl, rfl⟩))
  go_loop [0, 6] (fun t i => ∃ k : Nat, k ≤ 6 ∧ i = .int .i64 k ∧ ((k = 0 ∧ t = .int .u64 x) ∨ (k = 1 ∧ t = .int .u64 (o1 x)) ∨ (k = 2 ∧ t = .int .u64 (o2 x)) ∨ (k = 3 ∧ t = .int .u64 (o3 x)) ∨ (k = 4 ∧ t = .int .u64 (o4 x)) ∨ (k = 5 ∧ t = .int .u64 (o5 x)) ∨ (k = 6 ∧ t = .int .u64 (o6 x)))) (fun _ i => 6 - (intOf i).toNat)
  case atStart => exact ⟨0, by omega, rfl, Or.inl ⟨rfl, rfl⟩⟩
  case round =>
    obtain ⟨k, hk, rfl, hr⟩ := hrel
    rcases hr with ⟨rfl, rfl⟩ | ⟨rfl, rfl⟩ | ⟨rfl, rfl⟩ | ⟨rfl, rfl⟩ | ⟨rfl, rfl⟩ | ⟨rfl, rfl⟩ | ⟨rfl, rfl⟩
    · go_wp2_with (first | (go_at_call 27; refine (width_any _ _ (by omega) (by omega)).mono ?_; rintro e w6 ⟨rfl, rfl⟩))
      go_round
      case rel => exact ⟨1, by omega, rfl, Or.inr (Or.inl ⟨rfl, rfl⟩)⟩
      case measure => simp [intOf]
    · go_wp2_with (first | (go_at_call 27; refine (width_any _ _ (by omega) (by omega)).mono ?_; rintro e w6 ⟨rfl, rfl⟩))
      go_round
      case rel => exact ⟨2, by omega, rfl, Or.inr (Or.inr (Or.inl ⟨rfl, rfl⟩))⟩
      case measure => simp [intOf]
    · go_wp2_with (first | (go_at_call 27; refine (width_any _ _ (by omega) (by omega)).mono ?_; rintro e w6 ⟨rfl, rfl⟩))
      go_round
      case rel => exact ⟨3, by omega, rfl, Or.inr (Or.inr (Or.inr (Or.inl ⟨rfl, rfl⟩)))⟩
      case measure => simp [intOf]
    · go_wp2_with (first | (go_at_call 27; refine (width_any _ _ (by omega) (by omega)).mono ?_; rintro e w6 ⟨rfl, rfl⟩))
      go_round
      case rel => exact ⟨4, by omega, rfl, Or.inr (Or.inr (Or.inr (Or.inr (Or.inl ⟨rfl, rfl⟩))))⟩
      case measure => simp [intOf]
    · go_wp2_with (first | (go_at_call 27; refine (width_any _ _ (by omega) (by omega)).mono ?_; rintro e w6 ⟨rfl, rfl⟩))
      go_round
      case rel => exact ⟨5, by omega, rfl, Or.inr (Or.inr (Or.inr (Or.inr (Or.inr (Or.inl ⟨rfl, rfl⟩)))))⟩
      case measure => simp [intOf]
    · go_wp2_with (first | (go_at_call 27; refine (width_any _ _ (by omega) (by omega)).mono ?_; rintro e w6 ⟨rfl, rfl⟩))
      go_round
      case rel => exact ⟨6, by omega, rfl, Or.inr (Or.inr (Or.inr (Or.inr (Or.inr (Or.inr ⟨rfl, rfl⟩)))))⟩
      case measure => simp [intOf]
    · go_wp2_with (first | (go_at_call 27; refine (width_any _ _ (by omega) (by omega)).mono ?_; rintro e w6 ⟨rfl, rfl⟩))
      go_ret
      exact ⟨rfl, rfl⟩


theorem pop_word (F : Nat → Bool) (k : Nat) : ∀ j, j ≤ 64 → pop j (word F k) = countUpto (fun i => F (64 * k + i)) j
  | 0, _ => rfl
  | j + 1, h => by rw [pop_snoc, pop_word F k j (by omega), word_read F k j (by omega), countUpto]
theorem count_add (F : Nat → Bool) (a : Nat) : ∀ b, countUpto F (a + b) = countUpto F a + countUpto (fun i => F (a + i)) b
  | 0 => by simp [countUpto]
  | b + 1 => by rw [← Nat.add_assoc, countUpto, count_add F a b, countUpto, Nat.add_assoc]
theorem count_word (F : Nat → Bool) (k : Nat) : countUpto F (64 * (k + 1)) = countUpto F (64 * k) + pop 64 (word F k) := by
  rw [pop_word F k 64 (Nat.le_refl _), Nat.mul_add, Nat.mul_one, count_add]
theorem ones_word (F : Nat → Bool) (k : Nat) : onesZ (word F k : Int) = ((pop 64 (word F k) : Nat) : Int) := rfl

theorem pcount_any (F : Nat → Bool) (w : World) (hG : Grp w) :
    Calls Tryd.prog 7 #[tab F] w fun e w' => e = .returned (.int .i64 (countUpto F 256 : Int)) ∧ Below w.heap.size w w' := by
  conv in #[tab F] => unfold tab
  have TF := IsTab.new w F
  have B0 := (Below.refl _ w).alloc (Nat.le_refl _) (.cells #[.int .u64 (word F 0 : Int), .int .u64 (word F 1 : Int), .int .u64 (word F 2 : Int), .int .u64 (word F 3 : Int)] 24)
  go_enter Tryd.func7, Tryd.ntmps7
  go_wp2_with fail
  generalize w.alloc (.cells #[.int .u64 (word F 0 : Int), .int .u64 (word F 1 : Int), .int .u64 (word F 2 : Int), .int .u64 (word F 3 : Int)] 24) = w4 at TF B0 ⊢
  have G4 := hG.kept B0
  go_loopg [3, 7] 4 (fun g sn si wr => ∃ k n : Nat, k + g = 4 ∧ si = .int .i64 (k : Int) ∧ n = countUpto F (64 * k) ∧ sn = .int .i64 (n : Int) ∧ wr = w4)
  case atStart => exact ⟨0, 0, by omega, rfl, rfl, rfl, rfl⟩
  case round =>
    obtain ⟨k, n, hk, rfl, hn, rfl, rfl⟩ := hrel
    have hK : Aside (k + gk = 4 ∧ n = countUpto F (64 * k)) := ⟨hk, hn⟩
    have hn1 : n ≤ 256 := by rw [hn]; exact Nat.le_trans (count_le F _) (by omega)
    clear hk hn
    by_cases hk9 : k < 4
    · have hk9' : (k : Int) < 4 := by omega
      have ix := index_tab F k hk9
      have o0 := onesZ_lo (word F k : Int)
      have o1 := onesZ_hi (word F k : Int)
      have hO : Hid (onesZ (word F k : Int) = ((pop 64 (word F k) : Nat) : Int)) := rfl
      have hW : 0 ≤ (word F k : Int) ∧ (word F k : Int) ≤ 18446744073709551615 := by have := word_lt F k; omega
      have ho : Hid (∀ u, Grp u → Calls Tryd.prog 20 #[.int .u64 (word F k : Int)] u fun e w' => e = .returned (.int .i64 (onesZ (word F k : Int))) ∧ w' = u) := fun u hu => ones_any _ u hW.1 hW.2 hu
      clear hW
      generalize onesZ (word F k : Int) = z at o0 o1 hO ho
      go_wp2_with (first
        | (go_at_call 20; refine (ho.out _ G4).mono ?_; rintro e w6 ⟨rfl, rfl⟩))
      go_roundg (gk - 1)
      case measure => have := hK.out; omega
      case rel =>
        have hk := hK.out
        have hc := count_word F k
        have hz := hO.out
        exact ⟨k + 1, n + pop 64 (word F k), by omega, rfl, by omega, by rw [hz]; rfl, rfl⟩
    · obtain rfl : k = 4 := by have := hK.out; omega
      go_wp2_with fail
      go_ret
      obtain ⟨_, e⟩ := hK.out
      subst e
      exact ⟨rfl, B0⟩

theorem same_turn (F : Nat → Bool) (v : Nat) (hv : v < 8) : Go.Proofs.YtmfocngdobcfcabDoor.same F (turnF F v) = Go.Proofs.YtmfocngdobcfcabDoor.same (fixF F v false) (fixF F v true) := by
  rw [Bool.eq_iff_iff, same_iff, same_iff]
  constructor
  · intro h x hx
    unfold fixF
    rw [fixAt_flip v x false hv hx, fixAt_flip v x true hv hx]
    have := h x hx
    unfold turnF at this
    cases M v x <;> simp [this]
  · intro h x hx
    have := h x hx
    unfold fixF at this
    rw [fixAt_flip v x false hv hx, fixAt_flip v x true hv hx] at this
    unfold turnF
    cases hm : M v x <;> simp [hm] at this <;> simp [this]

set_option maxHeartbeats 800000 in
theorem psupport_any (F : Nat → Bool) (w : World) (hC : Cols w) :
    Calls Tryd.prog 13 #[tab F] w fun e w' => e = .returned (.int .u8 (supUpto F 8 : Int)) ∧ Below w.heap.size w w' := by
  conv in #[tab F] => unfold tab
  have TF := IsTab.new w F
  have B0 := (Below.refl _ w).alloc (Nat.le_refl _) (.cells #[.int .u64 (word F 0 : Int), .int .u64 (word F 1 : Int), .int .u64 (word F 2 : Int), .int .u64 (word F 3 : Int)] 24)
  go_enter Tryd.func13, Tryd.ntmps13
  go_wp2_with fail
  generalize w.alloc (.cells #[.int .u64 (word F 0 : Int), .int .u64 (word F 1 : Int), .int .u64 (word F 2 : Int), .int .u64 (word F 3 : Int)] 24) = w4 at TF B0 ⊢
  go_loopg [3, 5] 8 (fun g sn si wr => ∃ v : Nat, v + g = 8 ∧ si = .int .i64 (v : Int) ∧ sn = .int .u8 (supUpto F v : Int) ∧ IsTab wr w.heap.size F ∧ Below w.heap.size w wr)
  case atStart => exact ⟨0, by omega, rfl, rfl, TF, B0⟩
  case round =>
    obtain ⟨v, hv, rfl, rfl, hT, hB⟩ := hrel
    have hV : Aside (v + gk = 8) := hv
    clear hv
    by_cases hv8 : v < 8
    · have hv8' : (v : Int) < 8 := by omega
      have hCr := hC.kept hB
      have hl := sup_lt F v (by omega)
      have hs : Aside (supUpto F (v + 1) = if Go.Proofs.YtmfocngdobcfcabDoor.same F (turnF F v) then supUpto F v else supUpto F v ||| 2 ^ v) := by simp only [Aside]; rw [same_turn F v hv8]; rfl
      have heq : ∀ w, (Op.equalIn 10000 24 (tab F) (tab (turnF F v))).run Tryd.prog w = .ok (Go.Proofs.YtmfocngdobcfcabDoor.same F (turnF F v)) w := fun w => equal_tab _ _ w
      unfold tab at heq
      generalize supUpto F v = n at hl hs
      obtain ⟨c0, c1, c2, c3⟩ := hT.copy
      cases hsm : Go.Proofs.YtmfocngdobcfcabDoor.same F (turnF F v) with
      | true =>
        rw [hsm] at hs
        simp only [hsm] at heq
        go_wp2_with fail
        go_region_with (first
          | (go_at_call 23; refine (turned_any F v hv8 _ hCr.drew).mono ?_; unfold tab; rintro e w6 ⟨rfl, b6⟩; have T6 : IsTab w6 w.heap.size F := IsTab.kept hT.drew b6; obtain ⟨q0, q1, q2, q3⟩ := T6.copy))
        all_goals go_wp2_with fail
        all_goals go_roundg (gk - 1)
        all_goals first
          | (have := hV.out; omega)
          | (have := hV.out
             exact ⟨v + 1, by omega, rfl, by rw [hs.out]; rfl, T6, below_far hB (below_undrew b6)⟩)
      | false =>
        rw [hsm] at hs
        simp only [hsm] at heq
        go_wp2_with fail
        go_region_with (first
          | (go_at_call 23; refine (turned_any F v hv8 _ hCr.drew).mono ?_; unfold tab; rintro e w6 ⟨rfl, b6⟩; have T6 : IsTab w6 w.heap.size F := IsTab.kept hT.drew b6; obtain ⟨q0, q1, q2, q3⟩ := T6.copy))
        all_goals go_wp2_with fail
        all_goals go_roundg (gk - 1)
        all_goals first
          | (have := hV.out; omega)
          | (have := hV.out
             exact ⟨v + 1, by omega, rfl, by rw [hs.out, if_neg (by decide), or_pow8' n v hl hv8], T6, below_far hB (below_undrew b6)⟩)
    · obtain rfl : v = 8 := by have := hV.out; omega
      go_wp2_with fail
      go_ret
      exact ⟨rfl, hB⟩
end Go.Proofs.YtmfocngdobcfcabDoor
